/- Contracts of the document's schema: whether a row fits; the key by an index. -/
import Derived.Test.YtddejkmfffeikaaRfi
namespace Go.Proofs.Ytddejkmfffeikaa
open Go.ChangeShapes Go.WideShapes Go.ChangeAt Go.RowKit
set_option maxRecDepth 100000 in
set_option maxHeartbeats 16000000 in
theorem reffits_sch (v : Value) (s : Sch) (D : Option Addr) (n cd : Nat) (vs : List Val) (w : World) (hv : SchV w v s) (hf : FitS s) (hA : Vals w D vs) (hn : vs.length = n) (hfv : ∀ x ∈ vs, FitV x) (hs : n ≤ 1000) :
    Calls Try.prog 14/-f-/ #[v, .slice D n cd] w fun e w' => e = .returned (.bool (fitsB s.cols vs)) ∧ Below w.heap.size w w' := by
  subst hn
  obtain ⟨A, B, c, d, rfl, hC, hI, hc, hd⟩ := hv.is
  have hcl := hf.clen
  obtain ⟨r, hr⟩ : ∃ r, r = fitsB s.cols vs := ⟨_, rfl⟩
  rw [← hr]
  have HR := Lib.hid hr
  have HB0 := Lib.hid ((Below.refl w.heap.size w).alloc (Nat.le_refl _) (.cells #[.string s.nm, .slice A s.cols.length c, .slice B s.idx.length d, .int .i64 s.limit, .int .i64 s.parts, .int .i64 s.by_] 25))
  have BL := Lib.hid (Blk.new w 25 #[.string s.nm, .slice A s.cols.length c, .slice B s.idx.length d, .int .i64 s.limit, .int .i64 s.parts, .int .i64 s.by_])
  have HC := Lib.hid hC
  have HA := Lib.hid hA
  have HFV := Lib.hid hfv
  clear hr hC hI hA hfv hf hv
  by_cases hl : vs.length = s.cols.length
  · have hlb : ((vs.length : Int) == s.cols.length) = true := by rw [hl]; exact beq_self_eq_true _
    have hlb2 : ((vs.length : Int) != s.cols.length) = false := by rw [hl]; simp
    have HL := Lib.hid hl
    have C1' := fun W hW => refall_any D vs.length cd vs W hW rfl HFV.out (by omega)
    obtain ⟨q, hq⟩ : ∃ q, q = rall vs := ⟨_, rfl⟩
    rw [← hq] at C1'
    have C1 := Lib.hid C1'
    have HQ := Lib.hid hq
    clear hq hl C1'
    cases q with
    | false =>
      have HX := Lib.hid (show r = false from by rw [HR.out]; unfold fitsB; rw [← HQ.out]; simp)
      go_enter Try.func14, Try.ntmps14
      go_wp2_with (go_at_call 37/-f-/; (with_reducible refine (C1.out _ (HA.out.keep HB0.out)).mono ?_); rintro e w1 ⟨rfl, hb⟩; have H1 := Lib.hid (HB0.out.trans (hb.mono HB0.out.size)); have K1 := BL.out.below hb BL.out.lt; have d1 := K1.cell 1; have d2 := K1.cell 2; have d4 := K1.cell 4; have d5 := K1.cell 5; have dl := K1.lt; simp only [List.getElem?_toArray, List.getElem?_cons_zero, List.getElem?_cons_succ] at d1 d2 d4 d5; have HK1 := Lib.hid K1; clear K1; clear hb)
      go_ret
      exact ⟨ret_bool HX.out.symm, H1.out⟩
    | true =>
      have HRK := Lib.hid (show r = kindsB s.cols vs vs.length from by rw [HR.out]; unfold fitsB; rw [← HQ.out, decide_eq_true HL.out]; simp)
      go_enter Try.func14, Try.ntmps14
      go_wp2_with (go_at_call 37/-f-/; (with_reducible refine (C1.out _ (HA.out.keep HB0.out)).mono ?_); rintro e w1 ⟨rfl, hb⟩; have H1 := Lib.hid (HB0.out.trans (hb.mono HB0.out.size)); have K1 := BL.out.below hb BL.out.lt; have d1 := K1.cell 1; have d2 := K1.cell 2; have d4 := K1.cell 4; have d5 := K1.cell 5; have dl := K1.lt; simp only [List.getElem?_toArray, List.getElem?_cons_zero, List.getElem?_cons_succ] at d1 d2 d4 d5; have HK1 := Lib.hid K1; clear K1; clear hb)
      go_loopw [5] (fun i wr => ∃ k : Nat, k ≤ vs.length ∧ i = .int .i64 k ∧ Below w.heap.size w wr ∧ Blk wr w.heap.size 25 #[.string s.nm, .slice A s.cols.length c, .slice B s.idx.length d, .int .i64 s.limit, .int .i64 s.parts, .int .i64 s.by_] ∧ Hid (kindsB s.cols vs k = true)) (fun i _ => vs.length - (intOf i).toNat)
      case atStart => exact ⟨0, Nat.zero_le _, rfl, H1.out, HK1.out, Lib.hid rfl⟩
      case round =>
        clear d1 d2 d4 d5 dl
        obtain ⟨k, hk, rfl, hbl, hbk, hall⟩ := hrel
        have hsz := hbl.size
        have s1 := hbk.cell 1
        have hlt2 := hbk.lt
        simp only [List.getElem?_toArray, List.getElem?_cons_zero, List.getElem?_cons_succ] at s1
        have HBK := Lib.hid hbk
        clear hbk
        by_cases hlt : k < vs.length
        · have hltc : k < s.cols.length := by have := HL.out; omega
          have hlti : (k : Int) < s.cols.length := by omega
          rcases HA.out with h | ⟨b, off, rfl, hbw, hcell⟩
          · rw [h] at hlt; simp at hlt
          obtain ⟨x0, _, _⟩ := hcell k hlt
          replace x0 := (hbl.cell (p := ⟨b, off + k * 3, none⟩) hbw).trans x0
          have hbw2 : b < wr.heap.size := Nat.lt_of_lt_of_le hbw hsz
          rcases HC.out with h | ⟨b2, off2, rfl, hbw3, hcell2⟩
          · rw [h] at hltc; simp at hltc
          obtain ⟨_, y1⟩ := hcell2 k hltc
          replace y1 := (hbl.cell (p := ⟨b2, off2 + k * 2 + 1, none⟩) hbw3).trans y1
          have hbw4 : b2 < wr.heap.size := Nat.lt_of_lt_of_le hbw3 hsz
          have HS := Lib.hid (kindsB_succ s.cols vs k)
          have HN := Lib.hid (kindsB_no s.cols vs vs.length k hlt)
          clear hcell hcell2
          generalize vs.getD k default = x at *
          generalize s.cols.getD k default = y at *
          obtain ⟨xk, xn, xs⟩ := x
          obtain ⟨ynm, ykd⟩ := y
          simp only at x0 y1 HS HN
          go_upto_region 6 with fail
          go_quiet (fail)
          by_cases hxy : xk = ykd
          · have e1 : (xk == ykd) = true := by rw [hxy]; exact beq_self_eq_true _
            have e2 : (xk != ykd) = false := by rw [hxy]; simp
            have HO := Lib.hid (HS.out.trans (by rw [hall.out, e1]; try rfl))
            clear hxy x0 y1
            go_wp2
            go_roundw
            case rel => exact ⟨k + 1, by omega, by go_num, below_drewN hbl _, HBK.out, HO⟩
            case measure => simp [intOf]; omega
          · have e1 : (xk == ykd) = false := beq_eq_false_iff_ne.2 hxy
            have e2 : (xk != ykd) = true := by simp [bne, e1]
            have HX := Lib.hid (HRK.out.trans (HN.out e1))
            clear hxy x0 y1
            go_wp2
            go_ret
            exact ⟨ret_bool HX.out.symm, below_drewN hbl _⟩
        · have hkl : k = vs.length := by omega
          subst hkl
          have HX := Lib.hid (HRK.out.trans hall.out)
          go_wp2
          go_ret
          exact ⟨ret_bool HX.out.symm, hbl⟩
  · have hlb : ((vs.length : Int) == s.cols.length) = false := beq_eq_false_iff_ne.2 (by omega)
    have hlb2 : ((vs.length : Int) != s.cols.length) = true := by simp [bne, hlb]
    have HX := Lib.hid (show r = false from by rw [HR.out]; unfold fitsB; rw [decide_eq_false hl]; rfl)
    clear hl
    go_enter Try.func14, Try.ntmps14
    go_wp2
    go_ret
    exact ⟨ret_bool HX.out.symm, HB0.out⟩
set_option maxRecDepth 100000 in
set_option maxHeartbeats 16000000 in
theorem refkey_sch (v : Value) (s : Sch) (p : Nat) (D : Option Addr) (n cd : Nat) (vs : List Val) (w : World) (hv : SchV w v s) (hf : FitS s) (hA : Vals w D vs) (hn : vs.length = n) (hfv : ∀ x ∈ vs, FitV x) (hz : ∀ x ∈ vs, x.s.size ≤ 300) (hs : n ≤ 1000) (hP : SchP s) (hpl : p < s.idx.length) (hvl : vs.length = s.cols.length) (hra : rall vs = true) :
    Calls Try.prog 24/-f-/ #[v, .int .i64 p, .slice D n cd] w fun e w' => e = .returned (.string ⟨(keyX s.idx p vs).toArray⟩) ∧ Below w.heap.size w w' := by
  subst hn
  obtain ⟨A, B, c, d, rfl, hC, hI, hc, hd⟩ := hv.is
  have HB0 := Lib.hid ((Below.refl w.heap.size w).alloc (Nat.le_refl _) (.cells #[.string s.nm, .slice A s.cols.length c, .slice B s.idx.length d, .int .i64 s.limit, .int .i64 s.parts, .int .i64 s.by_] 25))
  have HA := Lib.hid hA
  have hin := (hP.ix _ (getD_in s.idx p hpl)).2
  have hin0 := (hP.ix _ (getD_in s.idx 0 (by omega))).2
  rw [← hvl] at hin hin0
  have hxl := (hP.ix _ (getD_in s.idx p hpl)).1
  have hzl := (hP.ix _ (getD_in s.idx 0 (by omega))).1
  have hKX : keyX s.idx p vs = keysOf (pickL vs (s.idx.getD p default).cols) ++ (if (s.idx.getD p default).uq = true then [] else keysOf (pickL vs (s.idx.getD 0 default).cols)) := rfl
  have HP1 := Lib.hid (show 0 < s.idx.length from by omega)
  rcases hI with h | ⟨b, off, rfl, hbw, hcell⟩
  · rw [h] at hpl; simp at hpl
  have BL := Lib.hid (Blk.new w 25 #[.string s.nm, .slice A s.cols.length c, .slice (some ⟨b, off, none⟩) s.idx.length d, .int .i64 s.limit, .int .i64 s.parts, .int .i64 s.by_])
  obtain ⟨Ap, kp, x0, x1, HXP, _⟩ := hcell p hpl
  obtain ⟨Aq, kq, z0, _, HXQ, _⟩ := hcell 0 (by omega)
  rw [Nat.zero_mul, Nat.add_zero] at z0
  clear hcell hC
  generalize s.idx.getD p default = X at *
  generalize s.idx.getD 0 default = Z at *
  obtain ⟨X, uq⟩ := X
  obtain ⟨Z, uz⟩ := Z
  simp only at x0 x1 z0 HXP HXQ hKX hxl hzl hin hin0
  have L1 := pick_len vs X
  have L2 := pick_len vs Z
  have P1 := Lib.hid (fun W (hW : Below w.heap.size w W) => refpick_any D Ap vs.length cd X.length kp vs X W (HA.out.keep hW) (HXP.keep hW) rfl rfl hin (by omega) (by omega))
  have P2 := Lib.hid (fun W (hW : Below w.heap.size w W) => refpick_any D Aq vs.length cd Z.length kq vs Z W (HA.out.keep hW) (HXQ.keep hW) rfl rfl hin0 (by omega) (by omega))
  have K1 := Lib.hid (fun W A5 c5 hV => refkeys_any A5 (pickL vs X).length c5 (pickL vs X) W hV rfl (fun x hx => hfv x (pick_in vs X x hx)) (by omega) (fun x hx => hz x (pick_in vs X x hx)) (pick_right vs X hra))
  have K2 := Lib.hid (fun W A5 c5 hV => refkeys_any A5 (pickL vs Z).length c5 (pickL vs Z) W hV rfl (fun x hx => hfv x (pick_in vs Z x hx)) (by omega) (fun x hx => hz x (pick_in vs Z x hx)) (pick_right vs Z hra))
  have S1 := keysOf_len (pickL vs X) (fun x hx => hz x (pick_in vs X x hx))
  have S2 := keysOf_len (pickL vs Z) (fun x hx => hz x (pick_in vs Z x hx))
  rw [hKX]
  clear hKX
  generalize pickL vs X = PX at *
  generalize pickL vs Z = PZ at *
  obtain ⟨T1, hT1⟩ : ∃ T : ByteArray, T = ⟨(keysOf PX).toArray⟩ := ⟨_, rfl⟩
  obtain ⟨T2, hT2⟩ : ∃ T : ByteArray, T = ⟨(keysOf PZ).toArray⟩ := ⟨_, rfl⟩
  have hs1 : T1.size ≤ 70000 := by rw [hT1, str_size]; omega
  have hs2 : T2.size ≤ 70000 := by rw [hT2, str_size]; omega
  have hcc : ¬ (9223372036854775807 < T1.size + T2.size) := by omega
  rw [← hT1] at K1
  rw [← hT2] at K2
  have HT1 := Lib.hid hT1
  have HT2 := Lib.hid hT2
  have X0 := Lib.hid x0
  have X1 := Lib.hid x1
  have Z0 := Lib.hid z0
  have hpi : (p : Int) < s.idx.length := by omega
  have hz00 := HP1.out
  have hz01 := len_ne s.idx hz00
  clear S1 S2 L1 L2 hT1 hT2 HXP HXQ hin hin0 hfv hz hra hA hv hf hP hvl
  cases uq with
  | true =>
    rw [if_pos rfl, List.append_nil, ← HT1.out]
    go_enter Try.func24, Try.ntmps24
    go_wp2_with (first
      | (go_at_call 28/-f-/; (with_reducible refine (P1.out _ HB0.out).mono ?_); rintro e w1 ⟨⟨u, rfl, hu⟩, hb⟩; obtain ⟨A5, c5, rfl, hv5, _⟩ := hu.vals; have H1 := Lib.hid (HB0.out.trans (hb.mono HB0.out.size)); have HV5 := Lib.hid hv5; have Q1 := BL.out.below hb BL.out.lt; have d1 := Q1.cell 1; have d2 := Q1.cell 2; have d4 := Q1.cell 4; have d5 := Q1.cell 5; have dl := Q1.lt; simp only [List.getElem?_toArray, List.getElem?_cons_zero, List.getElem?_cons_succ] at d1 d2 d4 d5; have HQ1 := Lib.hid Q1; clear Q1; clear hb hu hv5)
      | (go_at_call 47/-f-/; (with_reducible refine (K1.out _ A5 c5 HV5.out).mono ?_); rintro e w2 ⟨rfl, hb⟩; have H2 := Lib.hid (H1.out.trans (hb.mono H1.out.size)); have Q2 := HQ1.out.below hb HQ1.out.lt; have e1 := Q2.cell 1; have e2 := Q2.cell 2; have e4 := Q2.cell 4; have e5 := Q2.cell 5; have el := Q2.lt; simp only [List.getElem?_toArray, List.getElem?_cons_zero, List.getElem?_cons_succ] at e1 e2 e4 e5; have HQ2 := Lib.hid Q2; clear Q2; have x2 := (H2.out.cell (p := ⟨b, off + p * 2 + 1, none⟩) hbw).trans X1.out; have hb2 := Nat.lt_of_lt_of_le hbw H2.out.size; clear hb))
    go_ret
    exact ⟨rfl, H2.out⟩
  | false =>
    rw [if_neg (by simp)]
    go_enter Try.func24, Try.ntmps24
    go_upto_region 3 with (first
      | (go_at_call 28/-f-/; (with_reducible refine (P1.out _ HB0.out).mono ?_); rintro e w1 ⟨⟨u, rfl, hu⟩, hb⟩; obtain ⟨A5, c5, rfl, hv5, _⟩ := hu.vals; have H1 := Lib.hid (HB0.out.trans (hb.mono HB0.out.size)); have HV5 := Lib.hid hv5; have Q1 := BL.out.below hb BL.out.lt; have d1 := Q1.cell 1; have d2 := Q1.cell 2; have d4 := Q1.cell 4; have d5 := Q1.cell 5; have dl := Q1.lt; simp only [List.getElem?_toArray, List.getElem?_cons_zero, List.getElem?_cons_succ] at d1 d2 d4 d5; have HQ1 := Lib.hid Q1; clear Q1; clear hb hu hv5)
      | (go_at_call 47/-f-/; (with_reducible refine (K1.out _ A5 c5 HV5.out).mono ?_); rintro e w2 ⟨rfl, hb⟩; have H2 := Lib.hid (H1.out.trans (hb.mono H1.out.size)); have Q2 := HQ1.out.below hb HQ1.out.lt; have e1 := Q2.cell 1; have e2 := Q2.cell 2; have e4 := Q2.cell 4; have e5 := Q2.cell 5; have el := Q2.lt; simp only [List.getElem?_toArray, List.getElem?_cons_zero, List.getElem?_cons_succ] at e1 e2 e4 e5; have HQ2 := Lib.hid Q2; clear Q2; have x2 := (H2.out.cell (p := ⟨b, off + p * 2 + 1, none⟩) hbw).trans X1.out; have y2 := (H2.out.cell (p := ⟨b, off, none⟩) hbw).trans Z0.out; have hb2 := Nat.lt_of_lt_of_le hbw H2.out.size; clear hb))
    go_wp2_with (first
      | (go_at_call 28/-f-/; (with_reducible refine (P2.out _ H2.out).mono ?_); rintro e w3 ⟨⟨u, rfl, hu⟩, hb⟩; obtain ⟨A6, c6, rfl, hv6, _⟩ := hu.vals; have H3 := Lib.hid (H2.out.trans (hb.mono H2.out.size)); have HV6 := Lib.hid hv6; clear hb hu hv6)
      | (go_at_call 47/-f-/; (with_reducible refine (K2.out _ A6 c6 HV6.out).mono ?_); rintro e w4 ⟨rfl, hb⟩; have H4 := Lib.hid (H3.out.trans (hb.mono H3.out.size)); clear hb))
    go_ret
    refine ⟨congrArg (fun q => Ending.returned (.string q)) ?_, H4.out⟩
    rw [HT1.out, HT2.out]
    exact ByteArray.mk_append_mk _ _
end Go.Proofs.Ytddejkmfffeikaa

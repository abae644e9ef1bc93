/- Contracts of package stream, and of its statements: whether rows fit columns. -/
import Derived.Test.YtacangeamdcgdaaStp
namespace Go.Proofs.Ytacangeamdcgdaa
open Go.ChangeShapes Go.WideShapes Go.ChangeAt Go.RowKit
def kindsB (cs : List Col) (vs : List Val) (n : Nat) : Bool := (List.range n).all fun i => (vs.getD i default).k == (cs.getD i default).kd
def fitsB (cs : List Col) (vs : List Val) : Bool := decide (vs.length = cs.length) && rall vs && kindsB cs vs vs.length
theorem kindsB_succ (cs : List Col) (vs : List Val) (n : Nat) : kindsB cs vs (n + 1) = (kindsB cs vs n && ((vs.getD n default).k == (cs.getD n default).kd)) := by
  unfold kindsB
  rw [List.range_succ, List.all_append]; simp
theorem kindsB_no (cs : List Col) (vs : List Val) (n k : Nat) (hk : k < n) (h : ((vs.getD k default).k == (cs.getD k default).kd) = false) : kindsB cs vs n = false := by
  unfold kindsB
  rw [List.all_eq_false]
  exact ⟨k, by simpa using hk, by rw [h]; simp⟩
set_option maxRecDepth 100000 in
set_option maxHeartbeats 16000000 in
theorem reffits_sch (v : Value) (s : Sch) (D : Option Addr) (n cd : Nat) (vs : List Val) (w : World) (hv : SchV w v s) (hf : FitS s) (hA : Vals w D vs) (hn : vs.length = n) (hfv : ∀ x ∈ vs, FitV x) (hs : n ≤ 1000) :
    Calls Try.prog 41/-f-/ #[v, .slice D n cd] w fun e w' => e = .returned (.bool (fitsB s.cols vs)) ∧ Below w.heap.size w w' := by
  subst hn
  obtain ⟨A, B, c, d, rfl, hC, hI, hc, hd⟩ := hv.is
  have hcl := hf.clen
  obtain ⟨r, hr⟩ : ∃ r, r = fitsB s.cols vs := ⟨_, rfl⟩
  rw [← hr]
  have HR := Lib.hid hr
  have HB0 := Lib.hid ((Below.refl w.heap.size w).alloc (Nat.le_refl _) (.cells #[.string s.nm, .slice A s.cols.length c, .slice B s.idx.length d, .int .i64 s.limit, .int .i64 s.parts, .int .i64 s.by_] 74))
  have BL := Lib.hid (Blk.new w 74 #[.string s.nm, .slice A s.cols.length c, .slice B s.idx.length d, .int .i64 s.limit, .int .i64 s.parts, .int .i64 s.by_])
  have HC := Lib.hid hC
  have HA := Lib.hid hA
  have HFV := Lib.hid hfv
  clear hr hC hI hA hfv hf hv
  by_cases hl : vs.length = s.cols.length
  · have hlb : ((vs.length : Int) == s.cols.length) = true := by rw [hl]; exact beq_self_eq_true _
    have hlb2 : ((vs.length : Int) != s.cols.length) = false := by rw [hl]; simp
    have HL := Lib.hid hl
    have C1' := fun W hW => refall_any D vs.length cd vs W hW rfl HFV.out (by omega)
    obtain ⟨q, hq⟩ : ∃ q, q = rall vs := ⟨_, rfl⟩
    rw [← hq] at C1'
    have C1 := Lib.hid C1'
    have HQ := Lib.hid hq
    clear hq hl C1'
    cases q with
    | false =>
      have HX := Lib.hid (show r = false from by rw [HR.out]; unfold fitsB; rw [← HQ.out]; simp)
      go_enter Try.func41, Try.ntmps41
      go_wp2_with (go_at_call 68/-f-/; (with_reducible refine (C1.out _ (HA.out.keep HB0.out)).mono ?_); rintro e w1 ⟨rfl, hb⟩; have H1 := Lib.hid (HB0.out.trans (hb.mono HB0.out.size)); have K1 := BL.out.below hb BL.out.lt; have d1 := K1.cell 1; have d2 := K1.cell 2; have d4 := K1.cell 4; have d5 := K1.cell 5; have dl := K1.lt; simp only [List.getElem?_toArray, List.getElem?_cons_zero, List.getElem?_cons_succ] at d1 d2 d4 d5; have HK1 := Lib.hid K1; clear K1; clear hb)
      go_ret
      exact ⟨ret_bool HX.out.symm, H1.out⟩
    | true =>
      have HRK := Lib.hid (show r = kindsB s.cols vs vs.length from by rw [HR.out]; unfold fitsB; rw [← HQ.out, decide_eq_true HL.out]; simp)
      go_enter Try.func41, Try.ntmps41
      go_wp2_with (go_at_call 68/-f-/; (with_reducible refine (C1.out _ (HA.out.keep HB0.out)).mono ?_); rintro e w1 ⟨rfl, hb⟩; have H1 := Lib.hid (HB0.out.trans (hb.mono HB0.out.size)); have K1 := BL.out.below hb BL.out.lt; have d1 := K1.cell 1; have d2 := K1.cell 2; have d4 := K1.cell 4; have d5 := K1.cell 5; have dl := K1.lt; simp only [List.getElem?_toArray, List.getElem?_cons_zero, List.getElem?_cons_succ] at d1 d2 d4 d5; have HK1 := Lib.hid K1; clear K1; clear hb)
      go_loopw [5] (fun i wr => ∃ k : Nat, k ≤ vs.length ∧ i = .int .i64 k ∧ Below w.heap.size w wr ∧ Blk wr w.heap.size 74 #[.string s.nm, .slice A s.cols.length c, .slice B s.idx.length d, .int .i64 s.limit, .int .i64 s.parts, .int .i64 s.by_] ∧ Hid (kindsB s.cols vs k = true)) (fun i _ => vs.length - (intOf i).toNat)
      case atStart => exact ⟨0, Nat.zero_le _, rfl, H1.out, HK1.out, Lib.hid rfl⟩
      case round =>
        clear d1 d2 d4 d5 dl
        obtain ⟨k, hk, rfl, hbl, hbk, hall⟩ := hrel
        have hsz := hbl.size
        have s1 := hbk.cell 1
        have hlt2 := hbk.lt
        simp only [List.getElem?_toArray, List.getElem?_cons_zero, List.getElem?_cons_succ] at s1
        have HBK := Lib.hid hbk
        clear hbk
        by_cases hlt : k < vs.length
        · have hltc : k < s.cols.length := by have := HL.out; omega
          have hlti : (k : Int) < s.cols.length := by omega
          rcases HA.out with h | ⟨b, off, rfl, hbw, hcell⟩
          · rw [h] at hlt; simp at hlt
          obtain ⟨x0, _, _⟩ := hcell k hlt
          replace x0 := (hbl.cell (p := ⟨b, off + k * 3, none⟩) hbw).trans x0
          have hbw2 : b < wr.heap.size := Nat.lt_of_lt_of_le hbw hsz
          rcases HC.out with h | ⟨b2, off2, rfl, hbw3, hcell2⟩
          · rw [h] at hltc; simp at hltc
          obtain ⟨_, y1⟩ := hcell2 k hltc
          replace y1 := (hbl.cell (p := ⟨b2, off2 + k * 2 + 1, none⟩) hbw3).trans y1
          have hbw4 : b2 < wr.heap.size := Nat.lt_of_lt_of_le hbw3 hsz
          have HS := Lib.hid (kindsB_succ s.cols vs k)
          have HN := Lib.hid (kindsB_no s.cols vs vs.length k hlt)
          clear hcell hcell2
          generalize vs.getD k default = x at *
          generalize s.cols.getD k default = y at *
          obtain ⟨xk, xn, xs⟩ := x
          obtain ⟨ynm, ykd⟩ := y
          simp only at x0 y1 HS HN
          go_upto_region 6 with fail
          go_quiet (fail)
          by_cases hxy : xk = ykd
          · have e1 : (xk == ykd) = true := by rw [hxy]; exact beq_self_eq_true _
            have e2 : (xk != ykd) = false := by rw [hxy]; simp
            have HO := Lib.hid (HS.out.trans (by rw [hall.out, e1]; try rfl))
            clear hxy x0 y1
            go_wp2
            go_roundw
            case rel => exact ⟨k + 1, by omega, by go_num, below_drewN hbl _, HBK.out, HO⟩
            case measure => simp [intOf]; omega
          · have e1 : (xk == ykd) = false := beq_eq_false_iff_ne.2 hxy
            have e2 : (xk != ykd) = true := by simp [bne, e1]
            have HX := Lib.hid (HRK.out.trans (HN.out e1))
            clear hxy x0 y1
            go_wp2
            go_ret
            exact ⟨ret_bool HX.out.symm, below_drewN hbl _⟩
        · have hkl : k = vs.length := by omega
          subst hkl
          have HX := Lib.hid (HRK.out.trans hall.out)
          go_wp2
          go_ret
          exact ⟨ret_bool HX.out.symm, hbl⟩
  · have hlb : ((vs.length : Int) == s.cols.length) = false := beq_eq_false_iff_ne.2 (by omega)
    have hlb2 : ((vs.length : Int) != s.cols.length) = true := by simp [bne, hlb]
    have HX := Lib.hid (show r = false from by rw [HR.out]; unfold fitsB; rw [decide_eq_false hl]; rfl)
    clear hl
    go_enter Try.func41, Try.ntmps41
    go_wp2
    go_ret
    exact ⟨ret_bool HX.out.symm, HB0.out⟩
theorem rowfit (cs : List Col) (r : List Val) : fitsB cs r = (rall r && (decide (cs.length = r.length) && kindsB cs r cs.length)) := by
  unfold fitsB
  by_cases h : r.length = cs.length
  · rw [decide_eq_true h, decide_eq_true h.symm, h]; simp
  · rw [decide_eq_false h, decide_eq_false (fun e => h e.symm)]; simp
set_option maxRecDepth 100000 in
theorem ofkind_any (nm : ByteArray) (kd k n : Int) (s : ByteArray) (w : World) :
    Calls Try.prog 47/-f-/ #[.agg #[.string nm, .int .i64 kd], .agg #[.int .i64 k, .int .i64 n, .string s]] w fun e w' => e = .returned (.bool (k == kd)) ∧ Below w.heap.size w w' := by
  have HB := Lib.hid ((below_alloc w (.cells #[.string nm, .int .i64 kd] 78)).alloc (by simp) (.cells #[.int .i64 k, .int .i64 n, .string s] 93))
  go_enter Try.func47, Try.ntmps47
  go_wp2
  go_ret
  exact ⟨ret_bool (by rw [Bool.eq_iff_iff]; simp; exact eq_comm), HB.out⟩
set_option maxRecDepth 100000 in
set_option maxHeartbeats 8000000 in
theorem eqf_any (A B : Option Addr) (n c m d : Nat) (cs : List Col) (vs : List Val) (w : World) (hA : Cols w A cs) (hB : Vals w B vs) (hn : cs.length = n) (hm : vs.length = m) (hs : n ≤ 1000000) (hs' : m ≤ 1000000) :
    Calls Try.prog 46/-f-/ #[.slice A n c, .slice B m d, .func (.func 47) #[] #[]] w fun e w' => e = .returned (.bool (decide (cs.length = vs.length) && kindsB cs vs cs.length)) ∧ Below w.heap.size w w' := by
  subst hn hm
  obtain ⟨r, hr⟩ : ∃ r, r = (decide (cs.length = vs.length) && kindsB cs vs cs.length) := ⟨_, rfl⟩
  rw [← hr]
  have HR := Lib.hid hr
  have HA := Lib.hid hA
  have HB := Lib.hid hB
  clear hr hA hB
  by_cases hl : cs.length = vs.length
  · have hlb : ((cs.length : Int) == vs.length) = true := by rw [hl]; exact beq_self_eq_true _
    have hlb2 : ((cs.length : Int) != vs.length) = false := by rw [hl]; simp
    have HL := Lib.hid hl
    have HX := Lib.hid (show r = kindsB cs vs cs.length from by rw [HR.out, decide_eq_true hl]; rfl)
    clear hl
    go_enter Try.func46, Try.ntmps46
    go_wp2
    go_loopw [7, 8, 9, 17] (fun _ _ _ i wr => ∃ k : Nat, k ≤ cs.length ∧ i = .int .i64 k ∧ Below w.heap.size w wr ∧ Hid (kindsB cs vs k = true)) (fun _ _ _ i _ => cs.length - (intOf i).toNat)
    case atStart => exact ⟨0, Nat.zero_le _, rfl, Below.refl _ _, Lib.hid rfl⟩
    case round =>
      obtain ⟨k, hk, rfl, hbl, hall⟩ := hrel
      have hsz := hbl.size
      by_cases hlt : k < cs.length
      · have hlt2 : k < vs.length := by have := HL.out; omega
        have hlti : (k : Int) < vs.length := by omega
        rcases HA.out with h | ⟨b1, o1, rfl, hb1, hcell1⟩
        · subst h; simp at hlt
        rcases HB.out with h | ⟨b2, o2, rfl, hb2, hcell2⟩
        · subst h; simp at hlt2
        obtain ⟨x0, x1⟩ := hcell1 k hlt
        obtain ⟨y0, y1, y2⟩ := hcell2 k hlt2
        replace x0 := (hbl.cell (p := ⟨b1, o1 + k * 2, none⟩) hb1).trans x0
        replace x1 := (hbl.cell (p := ⟨b1, o1 + k * 2 + 1, none⟩) hb1).trans x1
        replace y0 := (hbl.cell (p := ⟨b2, o2 + k * 3, none⟩) hb2).trans y0
        replace y1 := (hbl.cell (p := ⟨b2, o2 + k * 3 + 1, none⟩) hb2).trans y1
        replace y2 := (hbl.cell (p := ⟨b2, o2 + k * 3 + 2, none⟩) hb2).trans y2
        have hbx : b1 < wr.heap.size := Nat.lt_of_lt_of_le hb1 hsz
        have hby : b2 < wr.heap.size := Nat.lt_of_lt_of_le hb2 hsz
        have HS := Lib.hid (kindsB_succ cs vs k)
        have HN := Lib.hid (kindsB_no cs vs cs.length k hlt)
        clear hcell1 hcell2
        generalize cs.getD k default = x at *
        generalize vs.getD k default = y at *
        obtain ⟨xnm, xkd⟩ := x
        obtain ⟨yk, yn, ys⟩ := y
        simp only at x0 x1 y0 y1 y2 HS HN
        have HBA := Lib.hid (((Below.refl wr.heap.size wr).alloc (Nat.le_refl _) (.cells #[.string xnm, .int .i64 xkd] 78)).alloc (by simp) (.cells #[.int .i64 yk, .int .i64 yn, .string ys] 93))
        have C' := fun W => ofkind_any xnm xkd yk yn ys W
        obtain ⟨q, hq⟩ : ∃ q, q = (yk == xkd) := ⟨_, rfl⟩
        rw [← hq] at C'
        have C := Lib.hid C'
        have HQ := Lib.hid hq
        have HBB := Lib.hid (hbl.trans (HBA.out.mono hsz))
        clear hq C'
        cases q with
        | false =>
          have HZ := Lib.hid (show r = false from by rw [HX.out]; exact HN.out HQ.out.symm)
          go_wp2_with (go_at_call 47/-f-/; (with_reducible refine (C.out _).mono ?_); rintro e w2 ⟨rfl, hb⟩; have H2 := Lib.hid (HBB.out.trans (hb.mono HBB.out.size)); clear hb)
          go_ret
          exact ⟨ret_bool HZ.out.symm, H2.out⟩
        | true =>
          have HO := Lib.hid (show kindsB cs vs (k + 1) = true from by rw [HS.out, hall.out, ← HQ.out]; rfl)
          go_wp2_with (go_at_call 47/-f-/; (with_reducible refine (C.out _).mono ?_); rintro e w2 ⟨rfl, hb⟩; have H2 := Lib.hid (HBB.out.trans (hb.mono HBB.out.size)); clear hb)
          go_roundw
          case rel => exact ⟨k + 1, by omega, by go_num, H2.out, HO⟩
          case measure => simp [intOf]; omega
      · have hkl : k = cs.length := by omega
        subst hkl
        have HZ := Lib.hid (show r = true from by rw [HX.out]; exact hall.out)
        go_wp2
        go_ret
        exact ⟨ret_bool HZ.out.symm, hbl⟩
  · have hlb : ((cs.length : Int) == vs.length) = false := beq_eq_false_iff_ne.2 (by omega)
    have hlb2 : ((cs.length : Int) != vs.length) = true := by simp [bne, hlb]
    have HX := Lib.hid (show r = false from by rw [HR.out, decide_eq_false hl]; rfl)
    clear hl
    go_enter Try.func46, Try.ntmps46
    go_wp2
    go_ret
    exact ⟨ret_bool HX.out.symm, Below.refl _ _⟩
/-- Whether rows fit columns. -/
def fitsS (cs : List Col) (rs : List (List Val)) : Bool := decide (rs.length ≤ 32) && rs.all (fitsB cs)
theorem rowz_at {w : World} {A : Option Addr} {rs : List (List Val)} (h : Rowz w A rs) {k : Nat} (hk : k < rs.length) : ∃ b off, A = some ⟨b, off, none⟩ ∧ b < w.heap.size ∧ ∃ Ai ci, w.cell? ⟨b, off + k, none⟩ = some (.slice Ai (rs.getD k []).length ci) ∧ Vals w Ai (rs.getD k []) := by
  rcases h with h | ⟨b, off, h1, h2, h3⟩
  · subst h; simp at hk
  · exact ⟨b, off, h1, h2, h3 k hk⟩
set_option maxRecDepth 100000 in
set_option maxHeartbeats 8000000 in
theorem sfits_any (A B : Option Addr) (c d : Nat) (cs : List Col) (rs : List (List Val)) (w : World) (hA : Cols w A cs) (hB : Rowz w B rs) (hcl : cs.length ≤ 1000000) (hrl : rs.length ≤ 9223372036854775807) (hr : ∀ r ∈ rs, r.length ≤ 1000 ∧ ∀ x ∈ r, FitV x) :
    Calls Try.prog 25/-f-/ #[.slice A cs.length c, .slice B rs.length d] w fun e w' => e = .returned (.bool (fitsS cs rs)) ∧ Below w.heap.size w w' := by
  obtain ⟨R, hR⟩ : ∃ R, R = fitsS cs rs := ⟨_, rfl⟩
  rw [← hR]
  have HR := Lib.hid hR
  have HA := Lib.hid hA
  have HB := Lib.hid hB
  have HF := Lib.hid hr
  clear hR hA hB hr
  by_cases h32 : 32 < rs.length
  · have HX := Lib.hid (show R = false from by rw [HR.out]; unfold fitsS; rw [decide_eq_false (by omega)]; rfl)
    have h32i : (32 : Int) < (rs.length : Int) := by omega
    go_enter Try.func25, Try.ntmps25
    go_wp2
    go_ret
    exact ⟨ret_bool HX.out.symm, Below.refl _ _⟩
  have HY := Lib.hid (show R = rs.all (fitsB cs) from by rw [HR.out]; unfold fitsS; rw [decide_eq_true (by omega)]; rfl)
  have h32i : ¬ (32 : Int) < (rs.length : Int) := by omega
  go_enter Try.func25, Try.ntmps25
  go_wp2
  go_loopw [6, 12] (fun _ i wr => ∃ k : Nat, k ≤ rs.length ∧ i = .int .i64 k ∧ Hid (Below w.heap.size w wr) ∧ Hid (∀ r ∈ rs.take k, fitsB cs r = true)) (fun _ i _ => rs.length - (intOf i).toNat)
  case atStart => exact ⟨0, Nat.zero_le _, rfl, Lib.hid (Below.refl _ _), Lib.hid (fun r hr => by simp at hr)⟩
  case round =>
    obtain ⟨k, hk, rfl, hbl, hall⟩ := hrel
    have hsz := hbl.out.size
    by_cases hlt : k < rs.length
    · obtain ⟨b, off, rfl, hbw, Ai, ci, x0, hv⟩ := rowz_at (HB.out.below hbl.out) hlt
      have HM := Lib.hid (show rs.getD k [] ∈ rs from by simp [List.getD, hlt])
      have HT := Lib.hid (show rs.take (k + 1) = rs.take k ++ [rs.getD k []] from by rw [List.take_succ_eq_append_getElem hlt]; simp [List.getD, List.getElem?_eq_getElem hlt])
      have HFX := Lib.hid (HF.out (rs.getD k []) HM.out)
      have NO := Lib.hid (fun (h : fitsB cs (rs.getD k []) = false) => (show R = false from by rw [HY.out, List.all_eq_false]; exact ⟨_, HM.out, by rw [h]; decide⟩))
      have HV := Lib.hid hv
      clear hv
      generalize rs.getD k [] = r at *
      have hrl2 := HFX.out.1
      have RF := Lib.hid (rowfit cs r)
      have C1' := fun W hW => rightall_any Ai r.length ci r W hW rfl HFX.out.2 (by omega)
      have C2' := fun W hC hW => eqf_any A Ai cs.length c r.length ci cs r W hC hW rfl rfl hcl (by omega)
      obtain ⟨q1, hq1⟩ : ∃ q, q = rall r := ⟨_, rfl⟩
      obtain ⟨q2, hq2⟩ : ∃ q, q = (decide (cs.length = r.length) && kindsB cs r cs.length) := ⟨_, rfl⟩
      rw [← hq1] at C1'
      rw [← hq2] at C2'
      have RQ := Lib.hid (show fitsB cs r = (q1 && q2) from by rw [RF.out, hq1, hq2])
      have C1 := Lib.hid C1'
      have C2 := Lib.hid C2'
      clear hq1 hq2 C1' C2' RF
      cases q1 with
      | false =>
        have HX := Lib.hid (NO.out (by rw [RQ.out]; rfl))
        go_wp2_with (go_at_call 45/-f-/; (with_reducible refine (C1.out _ HV.out).mono ?_); rintro e w2 ⟨rfl, hb⟩; have H2 := Lib.hid (hbl.out.trans (hb.mono hsz)); clear hb)
        go_ret
        exact ⟨ret_bool HX.out.symm, H2.out⟩
      | true =>
      cases q2 with
      | false =>
        have HX := Lib.hid (NO.out (by rw [RQ.out]; rfl))
        go_wp2_with (first
          | (go_at_call 45/-f-/; (with_reducible refine (C1.out _ HV.out).mono ?_); rintro e w2 ⟨rfl, hb⟩; have H2 := Lib.hid (hbl.out.trans (hb.mono hsz)); have HV2 := Lib.hid (HV.out.keep hb); clear hb)
          | (go_at_call 46/-f-/; (with_reducible refine (C2.out _ (HA.out.keep H2.out) HV2.out).mono ?_); rintro e w3 ⟨rfl, hb⟩; have H3 := Lib.hid (H2.out.trans (hb.mono H2.out.size)); clear hb))
        go_ret
        exact ⟨ret_bool HX.out.symm, H3.out⟩
      | true =>
        have HN := Lib.hid (show ∀ y ∈ rs.take (k + 1), fitsB cs y = true from fun y hy => by
          rw [HT.out, List.mem_append, List.mem_singleton] at hy
          rcases hy with hy | rfl
          · exact hall.out y hy
          · rw [RQ.out]; rfl)
        go_wp2_with (first
          | (go_at_call 45/-f-/; (with_reducible refine (C1.out _ HV.out).mono ?_); rintro e w2 ⟨rfl, hb⟩; have H2 := Lib.hid (hbl.out.trans (hb.mono hsz)); have HV2 := Lib.hid (HV.out.keep hb); clear hb)
          | (go_at_call 46/-f-/; (with_reducible refine (C2.out _ (HA.out.keep H2.out) HV2.out).mono ?_); rintro e w3 ⟨rfl, hb⟩; have H3 := Lib.hid (H2.out.trans (hb.mono H2.out.size)); clear hb))
        go_roundw
        case rel => exact ⟨k + 1, hlt, by go_num, H3, HN⟩
        case measure => simp [intOf]; omega
    · have hkl : k = rs.length := by omega
      subst hkl
      rw [List.take_length] at hall
      have HX := Lib.hid (show R = true from by rw [HY.out, List.all_eq_true]; exact hall.out)
      go_wp2
      go_ret
      exact ⟨ret_bool HX.out.symm, hbl.out⟩
set_option maxRecDepth 100000 in
set_option maxHeartbeats 8000000 in
theorem lfits_any (A B : Option Addr) (c d : Nat) (cs : List Col) (rs : List (List Val)) (w : World) (hA : Cols w A cs) (hB : Rowz w B rs) (hcl : cs.length ≤ 1000000) (hcc : cs.length ≤ c) (hcf : ∀ x ∈ cs, FitC x) (hrl : rs.length ≤ 9223372036854775807) (hr : ∀ r ∈ rs, r.length ≤ 1000 ∧ ∀ x ∈ r, FitV x) :
    Calls Try.prog 15/-f-/ #[.slice A cs.length c, .slice B rs.length d] w fun e w' => e = .returned (.bool (fitsS cs rs)) ∧ Below w.heap.size w w' := by
  obtain ⟨R, hR⟩ : ∃ R, R = fitsS cs rs := ⟨_, rfl⟩
  rw [← hR]
  have HR := Lib.hid hR
  have HA := Lib.hid hA
  have HB := Lib.hid hB
  have HF := Lib.hid hr
  have HFS := Lib.hid (show FitS ⟨⟨#[]⟩, cs, [], 0, 0, 0⟩ from ⟨(by show 0 ≤ _; omega), (by show cs.length ≤ _; omega), (by show 0 ≤ _; omega), hcf, (fun x hx => (by cases hx)), ⟨by show (-9223372036854775808 : Int) ≤ 0; omega, by show (0 : Int) ≤ _; omega⟩, ⟨by show (-9223372036854775808 : Int) ≤ 0; omega, by show (0 : Int) ≤ _; omega⟩, ⟨by show (-9223372036854775808 : Int) ≤ 0; omega, by show (0 : Int) ≤ _; omega⟩⟩)
  clear hR hA hB hr hcf
  go_enter Try.func15, Try.ntmps15
  go_wp2
  go_loopw [5] (fun i wr => ∃ k : Nat, k ≤ rs.length ∧ i = .int .i64 k ∧ Hid (Below w.heap.size w wr) ∧ Hid (∀ r ∈ rs.take k, fitsB cs r = true)) (fun i _ => rs.length - (intOf i).toNat)
  case atStart => exact ⟨0, Nat.zero_le _, rfl, Lib.hid (Below.refl _ _), Lib.hid (fun r hr => by simp at hr)⟩
  case round =>
    obtain ⟨k, hk, rfl, hbl, hall⟩ := hrel
    have hsz := hbl.out.size
    by_cases hlt : k < rs.length
    · obtain ⟨b, off, rfl, hbw, Ai, ci, x0, hv⟩ := rowz_at (HB.out.below hbl.out) hlt
      have HM := Lib.hid (show rs.getD k [] ∈ rs from by simp [List.getD, hlt])
      have HT := Lib.hid (show rs.take (k + 1) = rs.take k ++ [rs.getD k []] from by rw [List.take_succ_eq_append_getElem hlt]; simp [List.getD, List.getElem?_eq_getElem hlt])
      have HFX := Lib.hid (HF.out (rs.getD k []) HM.out)
      have NO := Lib.hid (fun (h : fitsB cs (rs.getD k []) = false) => (show R = false from by rw [HR.out]; unfold fitsS; rw [Bool.and_eq_false_iff]; right; rw [List.all_eq_false]; exact ⟨_, HM.out, by rw [h]; decide⟩))
      have HV := Lib.hid hv
      clear hv
      generalize rs.getD k [] = r at *
      have C' := reffits_sch (.agg #[.string ⟨#[]⟩, .slice A cs.length c, .slice none 0 0, .int .i64 0, .int .i64 0, .int .i64 0]) ⟨⟨#[]⟩, cs, [], 0, 0, 0⟩ Ai r.length ci r wr ⟨A, none, c, 0, rfl, HA.out.keep hbl.out, .inl rfl, hcc, Nat.le_refl _⟩ HFS.out HV.out rfl HFX.out.2 HFX.out.1
      obtain ⟨q, hq⟩ : ∃ q, q = fitsB cs r := ⟨_, rfl⟩
      rw [show fitsB (⟨⟨#[]⟩, cs, [], 0, 0, 0⟩ : Sch).cols r = q from hq.symm] at C'
      have C := Lib.hid C'
      have HQ := Lib.hid hq
      clear hq C'
      cases q with
      | false =>
        have HX := Lib.hid (NO.out HQ.out.symm)
        go_wp2_with (go_at_call 41/-f-/; (with_reducible refine C.out.mono ?_); rintro e w2 ⟨rfl, hb⟩; have H2 := Lib.hid (hbl.out.trans (hb.mono hsz)); clear hb)
        go_ret
        exact ⟨ret_bool HX.out.symm, H2.out⟩
      | true =>
        have HN := Lib.hid (show ∀ y ∈ rs.take (k + 1), fitsB cs y = true from fun y hy => by
          rw [HT.out, List.mem_append, List.mem_singleton] at hy
          rcases hy with hy | rfl
          · exact hall.out y hy
          · exact HQ.out.symm)
        go_wp2_with (go_at_call 41/-f-/; (with_reducible refine C.out.mono ?_); rintro e w2 ⟨rfl, hb⟩; have H2 := Lib.hid (hbl.out.trans (hb.mono hsz)); clear hb)
        go_roundw
        case rel => exact ⟨k + 1, hlt, by go_num, H2, HN⟩
        case measure => simp [intOf]; omega
    · have hkl : k = rs.length := by omega
      subst hkl
      rw [List.take_length] at hall
      have HX := Lib.hid (show R = decide ((rs.length : Int) ≤ 32) from by
        rw [HR.out]
        unfold fitsS
        rw [show rs.all (fitsB cs) = true from by rw [List.all_eq_true]; exact hall.out, Bool.and_true, Bool.eq_iff_iff, decide_eq_true_eq, decide_eq_true_eq]
        omega)
      by_cases h32 : (rs.length : Int) ≤ 32
      · rw [decide_eq_true h32] at HX
        go_wp2
        go_ret
        exact ⟨ret_bool (by rw [HX.out]), hbl.out⟩
      · rw [decide_eq_false h32] at HX
        go_wp2
        go_ret
        exact ⟨ret_bool (by rw [HX.out]), hbl.out⟩
end Go.Proofs.Ytacangeamdcgdaa

/- Contracts of package schema: whether two lists of columns are the same. Contracts of package schema: whether two lists of indexes are the same. Contracts of package schema: whether two lists of indexes are the same, by a function. -/
import Derived.Test.YtddejkmfffeikaaNmv
namespace Go.Proofs.Ytddejkmfffeikaa
open Go.ChangeShapes Go.WideShapes Go.ChangeAt Go.RowKit
theorem eqCol (s s' : ByteArray) (k k' : Int) (w : World) : (Op.equalIn 10000 29 (.agg #[.string s, .int .i64 k]) (.agg #[.string s', .int .i64 k'])).run Try.prog w = .ok (decide (s = s') && k == k') w := by
  have u3 := Try.underlying3
  have a3 := Try.isAgg3
  have z3 := Try.sizeOf3
  have u9 := Try.underlying9
  have a9 := Try.isAgg9
  have z9 := Try.sizeOf9
  have hS : Try.prog.underlying 29 = some (.struct (Try.prog.fieldsOf 29)) := by kernel_rfl
  have hp : Try.prog.stoodInHeld 29 = false := by kernel_rfl
  rw [show (10000 : Nat) = 9999 + 1 from rfl, run_equalIn_agg w 9999 29 _ _ hS hp]
  simp only [Program.fieldsOf, Try.underlying29]
  go_simp
  by_cases h3 : s = s'
  · subst h3
    by_cases h1 : k = k' <;> simp [h1]
  · have h4 : ¬ s.toList = s'.toList := by
      rw [ByteArray.toList_eq, ByteArray.toList_eq]; intro h; exact h3 (ByteArray.ext (Array.toList_inj.1 h))
    by_cases h1 : k = k' <;> simp [h1, h3, h4]
theorem guardCol : Try.prog.eqGuardType Try.prog.depth 29 = false := by kernel_rfl
def eqC (x y : Col) : Bool := decide (x.nm = y.nm) && x.kd == y.kd
theorem eqC_iff (x y : Col) : eqC x y = true ↔ x = y := by
  obtain ⟨a, b⟩ := x
  obtain ⟨c, d⟩ := y
  simp [eqC]
instance : DecidableEq Col := fun x y => decidable_of_iff _ (eqC_iff x y)
theorem take_succ_c (xs : List Col) (k : Nat) (h : k < xs.length) : xs.take (k + 1) = xs.take k ++ [xs.getD k default] := by
  rw [List.take_succ_eq_append_getElem h]; simp [List.getD, List.getElem?_eq_getElem h]
set_option maxRecDepth 100000 in
set_option maxHeartbeats 8000000 in
theorem equalC_any (A B : Option Addr) (n c m d : Nat) (xs ys : List Col) (w : World) (hA : Cols w A xs) (hB : Cols w B ys) (hn : xs.length = n) (hm : ys.length = m) (hs : n ≤ 9223372036854775807) (hs' : m ≤ 9223372036854775807) :
    Calls Try.prog 34/-f-/ #[.slice A n c, .slice B m d] w fun e w' => e = .returned (.bool (decide (xs = ys))) ∧ ∃ k, w' = w.drewN k := by
  subst hn hm
  have E := fun (a a' : ByteArray) (b b' : Int) (W : World) => eqCol a a' b b' W
  have hg := guardCol
  by_cases hl : xs.length = ys.length
  · have hlb : ((xs.length : Int) == ys.length) = true := by rw [hl]; exact beq_self_eq_true _
    have hlb2 : ((xs.length : Int) != ys.length) = false := by rw [hl]; simp
    have HL := Lib.hid hl
    have HA := Lib.hid hA
    have HB := Lib.hid hB
    clear hA hB hl
    obtain ⟨r, hr⟩ : ∃ r, r = decide (xs = ys) := ⟨_, rfl⟩
    rw [← hr]
    have HR := Lib.hid hr
    clear hr
    go_enter Try.func34, Try.ntmps34
    go_wp2
    go_loopw [5, 13] (fun _ i wr => ∃ k : Nat, k ≤ xs.length ∧ i = .int .i64 k ∧ (∃ m, wr = w.drewN m) ∧ Hid (xs.take k = ys.take k)) (fun _ i _ => xs.length - (intOf i).toNat)
    case atStart => exact ⟨0, Nat.zero_le _, rfl, ⟨0, rfl⟩, Lib.hid rfl⟩
    case round =>
      obtain ⟨k, hk, rfl, hwr, heq⟩ := hrel
      have HAR := Lib.hid (show Cols wr A xs from by obtain ⟨m, rfl⟩ := hwr; exact HA.out)
      have HBR := Lib.hid (show Cols wr B ys from by obtain ⟨m, rfl⟩ := hwr; exact HB.out)
      have HWR := Lib.hid hwr
      clear hwr
      by_cases hlt : k < xs.length
      · have hlt2 : k < ys.length := by have := HL.out; omega
        rcases HAR.out with h | ⟨b1, o1, rfl, hb1, hcell1⟩
        · subst h; simp at hlt
        rcases HBR.out with h | ⟨b2, o2, rfl, hb2, hcell2⟩
        · subst h; simp at hlt2
        obtain ⟨x0, x1⟩ := hcell1 k hlt
        obtain ⟨y0, y1⟩ := hcell2 k hlt2
        have HT1 := Lib.hid (take_succ_c xs k hlt)
        have HT2 := Lib.hid (take_succ_c ys k hlt2)
        clear hcell1 hcell2
        generalize xs.getD k default = x at *
        generalize ys.getD k default = y at *
        obtain ⟨xn, xk⟩ := x
        obtain ⟨yn, yk⟩ := y
        simp only at x0 x1 y0 y1
        go_upto_region 6 with fail
        go_quiet (fail)
        have hd : ((!decide (xn = yn)) || (!xk == yk)) = !eqC ⟨xn, xk⟩ ⟨yn, yk⟩ := by unfold eqC; simp [Bool.not_and]
        rw [hd]
        clear hd E
        obtain ⟨q, hq⟩ : ∃ q, q = eqC ⟨xn, xk⟩ ⟨yn, yk⟩ := ⟨_, rfl⟩
        rw [← hq]
        have HQ := Lib.hid hq
        clear hq x0 x1 y0 y1
        cases q with
        | true =>
          have hxy := (eqC_iff _ _).1 HQ.out.symm
          have HT := Lib.hid (show xs.take (k + 1) = ys.take (k + 1) from by rw [HT1.out, HT2.out, heq.out, hxy])
          clear hxy
          go_wp2
          go_roundw
          case rel => exact ⟨k + 1, hlt, by go_num, (by obtain ⟨m, hm⟩ := HWR.out; exact ⟨_, by rw [hm, World.drewN_drewN]⟩), HT⟩
          case measure => simp [intOf]; omega
        | false =>
          have HF := Lib.hid (show r = false from by
            rw [HR.out]
            refine decide_eq_false fun h => ?_
            have e1 : xs.take (k + 1) = ys.take (k + 1) := by rw [h]
            rw [HT1.out, HT2.out, heq.out] at e1
            have e2 := List.append_cancel_left e1
            have e3 := (eqC_iff _ _).2 (by simpa using e2 : (⟨xn, xk⟩ : Col) = ⟨yn, yk⟩)
            rw [← HQ.out] at e3; cases e3)
          go_wp2
          go_ret
          exact ⟨ret_bool HF.out.symm, (by obtain ⟨m, hm⟩ := HWR.out; exact ⟨_, by rw [hm, World.drewN_drewN]⟩)⟩
      · have hkl : k = xs.length := by omega
        have HT := Lib.hid (show r = true from by
          rw [HR.out]
          refine decide_eq_true ?_
          have := heq.out
          rw [hkl, List.take_length, HL.out, List.take_length] at this
          exact this)
        subst hkl
        go_wp2
        go_ret
        exact ⟨ret_bool HT.out.symm, HWR.out⟩
  · have hlb : ((xs.length : Int) == ys.length) = false := beq_eq_false_iff_ne.2 (by omega)
    have hne : decide (xs = ys) = false := decide_eq_false (fun h => hl (by rw [h]))
    rw [hne]
    clear hl hne
    go_enter Try.func34, Try.ntmps34
    go_wp2
    go_ret
    exact ⟨rfl, 0, rfl⟩
end Go.Proofs.Ytddejkmfffeikaa
namespace Go.Proofs.Ytddejkmfffeikaa
open Go.ChangeShapes Go.WideShapes Go.ChangeAt Go.RowKit
def sameI (a b : Ind) : Bool := (a.uq == b.uq) && decide (a.cols = b.cols)
set_option maxRecDepth 100000 in
set_option maxHeartbeats 4000000 in
theorem sameidx_any (a b : Ind) (A B : Option Addr) (c d : Nat) (w : World) (hA : Ints w .i64 A a.cols) (hB : Ints w .i64 B b.cols) (ha : a.cols.length ≤ 9223372036854775807) (hb : b.cols.length ≤ 9223372036854775807) :
    Calls Try.prog 36/-f-/ #[.agg #[.slice A a.cols.length c, .bool a.uq], .agg #[.slice B b.cols.length d, .bool b.uq]] w fun e w' => e = .returned (.bool (sameI a b)) ∧ Below w.heap.size w w' := by
  have HB2 := Lib.hid (((Below.refl w.heap.size w).alloc (Nat.le_refl _) (.cells #[.slice A a.cols.length c, .bool a.uq] 34)).alloc (by simp) (.cells #[.slice B b.cols.length d, .bool b.uq] 34))
  have C := Lib.hid (equal_any A B a.cols.length c b.cols.length d a.cols b.cols _ (hA.keep HB2.out) (hB.keep HB2.out) rfl rfl ha hb)
  clear hA hB
  obtain ⟨r, hr⟩ : ∃ r, r = sameI a b := ⟨_, rfl⟩
  rw [← hr]
  have HR := Lib.hid hr
  clear hr
  obtain ⟨ac, au⟩ := a
  obtain ⟨bc, bu⟩ := b
  simp only at C HB2 HR ha hb ⊢
  cases au <;> cases bu
  case false.true =>
    have HX := Lib.hid (show r = false from by rw [HR.out]; rfl)
    go_enter Try.func36, Try.ntmps36
    go_wp2
    go_ret
    exact ⟨ret_bool HX.out.symm, HB2.out⟩
  case true.false =>
    have HX := Lib.hid (show r = false from by rw [HR.out]; rfl)
    go_enter Try.func36, Try.ntmps36
    go_wp2
    go_ret
    exact ⟨ret_bool HX.out.symm, HB2.out⟩
  all_goals
    have HX := Lib.hid (show r = decide (ac = bc) from by rw [HR.out]; simp [sameI])
    rw [← HX.out] at C
    go_enter Try.func36, Try.ntmps36
    go_wp2_with (go_at_call 51/-f-/; refine C.out.mono ?_; rintro e w1 ⟨rfl, k, rfl⟩)
    go_ret
    exact ⟨rfl, below_drewN HB2.out k⟩
end Go.Proofs.Ytddejkmfffeikaa
namespace Go.Proofs.Ytddejkmfffeikaa
open Go.ChangeShapes Go.WideShapes Go.ChangeAt Go.RowKit
/-- The first n indexes are the same, two by two. -/
def sameN (xs ys : List Ind) (n : Nat) : Bool := (List.range n).all fun i => sameI (xs.getD i default) (ys.getD i default)
def sameL (xs ys : List Ind) : Bool := decide (xs.length = ys.length) && sameN xs ys xs.length
theorem sameN_succ (xs ys : List Ind) (n : Nat) : sameN xs ys (n + 1) = (sameN xs ys n && sameI (xs.getD n default) (ys.getD n default)) := by
  unfold sameN
  rw [List.range_succ, List.all_append]; simp
theorem sameN_no (xs ys : List Ind) (n k : Nat) (hk : k < n) (h : sameI (xs.getD k default) (ys.getD k default) = false) : sameN xs ys n = false := by
  unfold sameN
  rw [List.all_eq_false]
  exact ⟨k, by simpa using hk, by rw [h]; simp⟩
set_option maxRecDepth 100000 in
set_option maxHeartbeats 8000000 in
theorem equalF_any (A B : Option Addr) (n c m d : Nat) (xs ys : List Ind) (w : World) (hA : Inds w A xs) (hB : Inds w B ys) (hn : xs.length = n) (hm : ys.length = m) (hs : n ≤ 1000000) (hs' : m ≤ 1000000) (hf : ∀ x ∈ xs, FitI x) (hf' : ∀ x ∈ ys, FitI x) :
    Calls Try.prog 35/-f-/ #[.slice A n c, .slice B m d, .func (.func 36) #[] #[]] w fun e w' => e = .returned (.bool (sameL xs ys)) ∧ Below w.heap.size w w' := by
  subst hn hm
  obtain ⟨r, hr⟩ : ∃ r, r = sameL xs ys := ⟨_, rfl⟩
  rw [← hr]
  have HR := Lib.hid hr
  have HA := Lib.hid hA
  have HB := Lib.hid hB
  have HF := Lib.hid hf
  have HF' := Lib.hid hf'
  clear hr hA hB hf hf'
  by_cases hl : xs.length = ys.length
  · have hlb : ((xs.length : Int) == ys.length) = true := by rw [hl]; exact beq_self_eq_true _
    have hlb2 : ((xs.length : Int) != ys.length) = false := by rw [hl]; simp
    have HL := Lib.hid hl
    have HX := Lib.hid (show r = sameN xs ys xs.length from by rw [HR.out]; unfold sameL; rw [decide_eq_true hl]; rfl)
    clear hl
    go_enter Try.func35, Try.ntmps35
    go_wp2
    go_loopw [7, 8, 9, 17] (fun _ _ _ i wr => ∃ k : Nat, k ≤ xs.length ∧ i = .int .i64 k ∧ Below w.heap.size w wr ∧ Hid (sameN xs ys k = true)) (fun _ _ _ i _ => xs.length - (intOf i).toNat)
    case atStart => exact ⟨0, Nat.zero_le _, rfl, Below.refl _ _, Lib.hid rfl⟩
    case round =>
      obtain ⟨k, hk, rfl, hbl, hall⟩ := hrel
      have hsz := hbl.size
      by_cases hlt : k < xs.length
      · have hlt2 : k < ys.length := by have := HL.out; omega
        have hlti : (k : Int) < ys.length := by omega
        rcases HA.out with h | ⟨b1, o1, rfl, hb1, hcell1⟩
        · subst h; simp at hlt
        rcases HB.out with h | ⟨b2, o2, rfl, hb2, hcell2⟩
        · subst h; simp at hlt2
        obtain ⟨A1, c1, x0, x1, x2, _⟩ := hcell1 k hlt
        obtain ⟨A2, c2, y0, y1, y2, _⟩ := hcell2 k hlt2
        replace x0 := (hbl.cell (p := ⟨b1, o1 + k * 2, none⟩) hb1).trans x0
        replace x1 := (hbl.cell (p := ⟨b1, o1 + k * 2 + 1, none⟩) hb1).trans x1
        replace y0 := (hbl.cell (p := ⟨b2, o2 + k * 2, none⟩) hb2).trans y0
        replace y1 := (hbl.cell (p := ⟨b2, o2 + k * 2 + 1, none⟩) hb2).trans y1
        have hbx : b1 < wr.heap.size := Nat.lt_of_lt_of_le hb1 hsz
        have hby : b2 < wr.heap.size := Nat.lt_of_lt_of_le hb2 hsz
        have HX2 := Lib.hid (x2.keep hbl)
        have HY2 := Lib.hid (y2.keep hbl)
        have hfx := (HF.out _ (getD_in xs k hlt)).len
        have hfy := (HF'.out _ (getD_in ys k hlt2)).len
        have HS := Lib.hid (sameN_succ xs ys k)
        have HN := Lib.hid (sameN_no xs ys xs.length k hlt)
        clear hcell1 hcell2 x2 y2
        generalize xs.getD k default = x at *
        generalize ys.getD k default = y at *
        have HBA := Lib.hid (((Below.refl wr.heap.size wr).alloc (Nat.le_refl _) (.cells #[.slice A1 x.cols.length c1, .bool x.uq] 34)).alloc (by simp) (.cells #[.slice A2 y.cols.length c2, .bool y.uq] 34))
        have C := Lib.hid (sameidx_any x y A1 A2 c1 c2 _ (HX2.out.keep HBA.out) (HY2.out.keep HBA.out) hfx hfy)
        obtain ⟨q, hq⟩ : ∃ q, q = sameI x y := ⟨_, rfl⟩
        rw [← hq] at C
        have HQ := Lib.hid hq
        have HBB := Lib.hid (hbl.trans (HBA.out.mono hsz))
        clear hq
        cases q with
        | false =>
          have HZ := Lib.hid (show r = false from by rw [HX.out]; exact HN.out HQ.out.symm)
          go_wp2_with (go_at_call 36/-f-/; refine C.out.mono ?_; rintro e w2 ⟨rfl, hb⟩; have H2 := Lib.hid (HBB.out.trans (hb.mono HBB.out.size)); clear hb)
          go_ret
          exact ⟨ret_bool HZ.out.symm, H2.out⟩
        | true =>
          have HO := Lib.hid (show sameN xs ys (k + 1) = true from by rw [HS.out, hall.out, ← HQ.out]; rfl)
          go_wp2_with (go_at_call 36/-f-/; refine C.out.mono ?_; rintro e w2 ⟨rfl, hb⟩; have H2 := Lib.hid (HBB.out.trans (hb.mono HBB.out.size)); clear hb)
          go_roundw
          case rel => exact ⟨k + 1, by omega, by go_num, H2.out, HO⟩
          case measure => simp [intOf]; omega
      · have hkl : k = xs.length := by omega
        subst hkl
        have HZ := Lib.hid (show r = true from by rw [HX.out]; exact hall.out)
        go_wp2
        go_ret
        exact ⟨ret_bool HZ.out.symm, hbl⟩
  · have hlb : ((xs.length : Int) == ys.length) = false := beq_eq_false_iff_ne.2 (by omega)
    have hlb2 : ((xs.length : Int) != ys.length) = true := by simp [bne, hlb]
    have HX := Lib.hid (show r = false from by rw [HR.out]; unfold sameL; rw [decide_eq_false hl]; rfl)
    clear hl
    go_enter Try.func35, Try.ntmps35
    go_wp2
    go_ret
    exact ⟨ret_bool HX.out.symm, Below.refl _ _⟩
end Go.Proofs.Ytddejkmfffeikaa

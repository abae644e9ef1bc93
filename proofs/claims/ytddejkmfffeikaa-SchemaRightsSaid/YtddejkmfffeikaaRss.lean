/- Contracts of the document's schema: whether two schemas are the same. -/
import Derived.Test.YtddejkmfffeikaaSms
import Derived.Test.YtddejkmfffeikaaRsi
namespace Go.Proofs.Ytddejkmfffeikaa
open Go.ChangeShapes Go.WideShapes Go.ChangeAt Go.RowKit
set_option maxRecDepth 100000 in
set_option maxHeartbeats 16000000 in
theorem refsame_sch (v u : Value) (s t : Sch) (w : World) (hv : SchV w v s) (hu : SchV w u t) (hf : FitS s) (hf' : FitS t) (hi : s.idx.length ≤ 1000000) (hi' : t.idx.length ≤ 1000000) :
    Calls Try.prog 10/-f-/ #[v, u] w fun e w' => e = .returned (.bool (sameS s t)) ∧ Below w.heap.size w w' := by
  obtain ⟨A, B, c, d, rfl, hC, hI, _, _⟩ := hv.is
  obtain ⟨A', B', c', d', rfl, hC', hI', _, _⟩ := hu.is
  have hcl := hf.clen
  have hcl' := hf'.clen
  have HFI := Lib.hid hf.idx
  have HFI' := Lib.hid hf'.idx
  obtain ⟨r, hr⟩ : ∃ r, r = sameS s t := ⟨_, rfl⟩
  rw [← hr]
  have HR := Lib.hid (show r = (decide (s.nm = t.nm) && decide (s.cols = t.cols) && sameL s.idx t.idx && decide (s.limit = t.limit) && decide (s.parts = t.parts) && decide (s.by_ = t.by_)) from hr)
  have HC := Lib.hid hC
  have HC' := Lib.hid hC'
  have HI := Lib.hid hI
  have HI' := Lib.hid hI'
  have HB0 := Lib.hid (((Below.refl w.heap.size w).alloc (Nat.le_refl _) (.cells #[.string s.nm, .slice A s.cols.length c, .slice B s.idx.length d, .int .i64 s.limit, .int .i64 s.parts, .int .i64 s.by_] 25)).alloc (by simp) (.cells #[.string t.nm, .slice A' t.cols.length c', .slice B' t.idx.length d', .int .i64 t.limit, .int .i64 t.parts, .int .i64 t.by_] 25))
  have BL1 := Lib.hid ((Blk.new w 25 #[.string s.nm, .slice A s.cols.length c, .slice B s.idx.length d, .int .i64 s.limit, .int .i64 s.parts, .int .i64 s.by_]).alloc (.cells #[.string t.nm, .slice A' t.cols.length c', .slice B' t.idx.length d', .int .i64 t.limit, .int .i64 t.parts, .int .i64 t.by_] 25))
  have BL2 := Lib.hid (show Blk ((w.alloc (.cells #[.string s.nm, .slice A s.cols.length c, .slice B s.idx.length d, .int .i64 s.limit, .int .i64 s.parts, .int .i64 s.by_] 25)).alloc (.cells #[.string t.nm, .slice A' t.cols.length c', .slice B' t.idx.length d', .int .i64 t.limit, .int .i64 t.parts, .int .i64 t.by_] 25)) (w.heap.size + 1) 25 #[.string t.nm, .slice A' t.cols.length c', .slice B' t.idx.length d', .int .i64 t.limit, .int .i64 t.parts, .int .i64 t.by_] from by have := Blk.new (w.alloc (.cells #[.string s.nm, .slice A s.cols.length c, .slice B s.idx.length d, .int .i64 s.limit, .int .i64 s.parts, .int .i64 s.by_] 25)) 25 #[.string t.nm, .slice A' t.cols.length c', .slice B' t.idx.length d', .int .i64 t.limit, .int .i64 t.parts, .int .i64 t.by_]; simpa using this)
  clear hr hf hf' hv hu hC hC' hI hI'
  by_cases hn : s.nm = t.nm
  rotate_left
  · have e1 : (s.nm.toList == t.nm.toList) = false := by rw [str_eq_dec]; exact decide_eq_false hn
    have e2 : (s.nm.toList != t.nm.toList) = true := by rw [bne, e1]; rfl
    have HX := Lib.hid (show r = false from by rw [HR.out, decide_eq_false hn]; rfl)
    go_enter Try.func10, Try.ntmps10
    go_wp2
    go_ret
    exact ⟨ret_bool HX.out.symm, HB0.out⟩
  have en1 : (s.nm.toList == t.nm.toList) = true := by rw [hn]; exact beq_self_eq_true _
  have en2 : (s.nm.toList != t.nm.toList) = false := by rw [bne, en1]; rfl
  have HN := Lib.hid hn
  clear hn
  by_cases hl : s.limit = t.limit
  rotate_left
  · have e1 : (s.limit == t.limit) = false := beq_eq_false_iff_ne.2 hl
    have e2 : (s.limit != t.limit) = true := by simp [bne, e1]
    have HX := Lib.hid (show r = false from by rw [HR.out]; simp [hl])
    go_enter Try.func10, Try.ntmps10
    go_wp2
    go_ret
    exact ⟨ret_bool HX.out.symm, HB0.out⟩
  have el1 : (s.limit == t.limit) = true := by rw [hl]; exact beq_self_eq_true _
  have el2 : (s.limit != t.limit) = false := by rw [bne, el1]; rfl
  have Hl := Lib.hid hl
  clear hl
  by_cases hp : s.parts = t.parts
  rotate_left
  · have e1 : (s.parts == t.parts) = false := beq_eq_false_iff_ne.2 hp
    have e2 : (s.parts != t.parts) = true := by simp [bne, e1]
    have HX := Lib.hid (show r = false from by rw [HR.out]; simp [hp])
    go_enter Try.func10, Try.ntmps10
    go_wp2
    go_ret
    exact ⟨ret_bool HX.out.symm, HB0.out⟩
  have ep1 : (s.parts == t.parts) = true := by rw [hp]; exact beq_self_eq_true _
  have ep2 : (s.parts != t.parts) = false := by rw [bne, ep1]; rfl
  have Hp := Lib.hid hp
  clear hp
  by_cases hb : s.by_ = t.by_
  rotate_left
  · have e1 : (s.by_ == t.by_) = false := beq_eq_false_iff_ne.2 hb
    have e2 : (s.by_ != t.by_) = true := by simp [bne, e1]
    have HX := Lib.hid (show r = false from by rw [HR.out]; simp [hb])
    go_enter Try.func10, Try.ntmps10
    go_wp2
    go_ret
    exact ⟨ret_bool HX.out.symm, HB0.out⟩
  have eb1 : (s.by_ == t.by_) = true := by rw [hb]; exact beq_self_eq_true _
  have eb2 : (s.by_ != t.by_) = false := by rw [bne, eb1]; rfl
  have Hb := Lib.hid hb
  clear hb
  by_cases hc : s.cols.length = t.cols.length
  rotate_left
  · have e1 : ((s.cols.length : Int) == t.cols.length) = false := beq_eq_false_iff_ne.2 (by omega)
    have e2 : ((s.cols.length : Int) != t.cols.length) = true := by simp [bne, e1]
    have hne : decide (s.cols = t.cols) = false := decide_eq_false (fun h => hc (by rw [h]))
    have HX := Lib.hid (show r = false from by rw [HR.out, hne]; simp)
    go_enter Try.func10, Try.ntmps10
    go_wp2
    go_ret
    exact ⟨ret_bool HX.out.symm, HB0.out⟩
  have ec1 : ((s.cols.length : Int) == t.cols.length) = true := by rw [hc]; exact beq_self_eq_true _
  have ec2 : ((s.cols.length : Int) != t.cols.length) = false := by rw [bne, ec1]; rfl
  by_cases hx : s.idx.length = t.idx.length
  rotate_left
  · have e1 : ((s.idx.length : Int) == t.idx.length) = false := beq_eq_false_iff_ne.2 (by omega)
    have e2 : ((s.idx.length : Int) != t.idx.length) = true := by simp [bne, e1]
    have hne : sameL s.idx t.idx = false := by unfold sameL; rw [decide_eq_false hx]; rfl
    have HCL := Lib.hid hc
    clear hc
    have HX := Lib.hid (show r = false from by rw [HR.out, hne]; simp)
    go_enter Try.func10, Try.ntmps10
    go_wp2
    go_ret
    exact ⟨ret_bool HX.out.symm, HB0.out⟩
  have ex1 : ((s.idx.length : Int) == t.idx.length) = true := by rw [hx]; exact beq_self_eq_true _
  have ex2 : ((s.idx.length : Int) != t.idx.length) = false := by rw [bne, ex1]; rfl
  have HCL := Lib.hid hc
  have HXL := Lib.hid hx
  have HR2 := Lib.hid (show r = (decide (s.cols = t.cols) && sameN s.idx t.idx s.idx.length) from by rw [HR.out, decide_eq_true HN.out, decide_eq_true Hl.out, decide_eq_true Hp.out, decide_eq_true Hb.out]; unfold sameL; rw [decide_eq_true hx]; simp)
  clear hc hx HR
  go_enter Try.func10, Try.ntmps10
  go_wp2
  go_loopw [5] (fun i wr => ∃ k : Nat, k ≤ s.cols.length ∧ i = .int .i64 k ∧ Below w.heap.size w wr ∧ Blk wr w.heap.size 25 #[.string s.nm, .slice A s.cols.length c, .slice B s.idx.length d, .int .i64 s.limit, .int .i64 s.parts, .int .i64 s.by_] ∧ Blk wr (w.heap.size + 1) 25 #[.string t.nm, .slice A' t.cols.length c', .slice B' t.idx.length d', .int .i64 t.limit, .int .i64 t.parts, .int .i64 t.by_] ∧ Hid (s.cols.take k = t.cols.take k)) (fun i _ => s.cols.length - (intOf i).toNat)
  case atStart => exact ⟨0, Nat.zero_le _, rfl, HB0.out, BL1.out, BL2.out, Lib.hid rfl⟩
  case round =>
    obtain ⟨k, hk, rfl, hbl, hk1, hk2, heq⟩ := hrel
    have hsz := hbl.size
    have s1 := hk1.cell 1
    have s2 := hk1.cell 2
    have hlt1 := hk1.lt
    have u1 := hk2.cell 1
    have u2 := hk2.cell 2
    have hlt2 := hk2.lt
    simp only [List.getElem?_toArray, List.getElem?_cons_zero, List.getElem?_cons_succ] at s1 s2 u1 u2
    have HK1 := Lib.hid hk1
    have HK2 := Lib.hid hk2
    clear hk1 hk2
    by_cases hlt : k < s.cols.length
    · have hlt3 : k < t.cols.length := by have := HCL.out; omega
      have hlti : (k : Int) < t.cols.length := by omega
      rcases HC.out with h | ⟨b1, o1, rfl, hb1, hcell1⟩
      · rw [h] at hlt; simp at hlt
      rcases HC'.out with h | ⟨b2, o2, rfl, hb2, hcell2⟩
      · rw [h] at hlt3; simp at hlt3
      obtain ⟨x0, x1⟩ := hcell1 k hlt
      obtain ⟨y0, y1⟩ := hcell2 k hlt3
      replace x0 := (hbl.cell (p := ⟨b1, o1 + k * 2, none⟩) hb1).trans x0
      replace x1 := (hbl.cell (p := ⟨b1, o1 + k * 2 + 1, none⟩) hb1).trans x1
      replace y0 := (hbl.cell (p := ⟨b2, o2 + k * 2, none⟩) hb2).trans y0
      replace y1 := (hbl.cell (p := ⟨b2, o2 + k * 2 + 1, none⟩) hb2).trans y1
      have hbx : b1 < wr.heap.size := Nat.lt_of_lt_of_le hb1 hsz
      have hby : b2 < wr.heap.size := Nat.lt_of_lt_of_le hb2 hsz
      have HT1 := Lib.hid (take_succ_c s.cols k hlt)
      have HT2 := Lib.hid (take_succ_c t.cols k hlt3)
      have E := fun (a a' : ByteArray) (b b' : Int) (W : World) => eqCol a a' b b' W
      have hg := guardCol
      clear hcell1 hcell2
      generalize s.cols.getD k default = x at *
      generalize t.cols.getD k default = y at *
      obtain ⟨xn, xk⟩ := x
      obtain ⟨yn, yk⟩ := y
      simp only at x0 x1 y0 y1
      go_upto_region 6 with fail
      go_quiet (fail)
      have hd : ((!decide (xn = yn)) || (!xk == yk)) = !eqC ⟨xn, xk⟩ ⟨yn, yk⟩ := by unfold eqC; simp [Bool.not_and]
      rw [hd]
      clear hd E
      obtain ⟨q, hq⟩ : ∃ q, q = eqC ⟨xn, xk⟩ ⟨yn, yk⟩ := ⟨_, rfl⟩
      rw [← hq]
      have HQ := Lib.hid hq
      clear hq x0 x1 y0 y1
      cases q with
      | true =>
        have hxy := (eqC_iff _ _).1 HQ.out.symm
        have HT := Lib.hid (show s.cols.take (k + 1) = t.cols.take (k + 1) from by rw [HT1.out, HT2.out, heq.out, hxy])
        clear hxy
        go_wp2
        go_roundw
        case rel => exact ⟨k + 1, hlt, by go_num, below_drewN hbl _, HK1.out, HK2.out, HT⟩
        case measure => simp [intOf]; omega
      | false =>
        have HF := Lib.hid (show r = false from by
          rw [HR2.out, decide_eq_false (fun h => ?_)]
          · rfl
          · have e1 : s.cols.take (k + 1) = t.cols.take (k + 1) := by rw [h]
            rw [HT1.out, HT2.out, heq.out] at e1
            have e2 := List.append_cancel_left e1
            have e3 := (eqC_iff _ _).2 (by simpa using e2 : (⟨xn, xk⟩ : Col) = ⟨yn, yk⟩)
            rw [← HQ.out] at e3; cases e3)
        go_wp2
        go_ret
        exact ⟨ret_bool HF.out.symm, below_drewN hbl _⟩
    · have hkl : k = s.cols.length := by omega
      have HX := Lib.hid (show r = sameN s.idx t.idx s.idx.length from by
        have h2 := heq.out
        rw [hkl, List.take_length, HCL.out, List.take_length] at h2
        rw [HR2.out, decide_eq_true h2]; rfl)
      subst hkl
      go_wp2
      go_loopw [6] (fun i wr => ∃ k : Nat, k ≤ s.idx.length ∧ i = .int .i64 k ∧ Below w.heap.size w wr ∧ Blk wr w.heap.size 25 #[.string s.nm, .slice A s.cols.length c, .slice B s.idx.length d, .int .i64 s.limit, .int .i64 s.parts, .int .i64 s.by_] ∧ Blk wr (w.heap.size + 1) 25 #[.string t.nm, .slice A' t.cols.length c', .slice B' t.idx.length d', .int .i64 t.limit, .int .i64 t.parts, .int .i64 t.by_] ∧ Hid (sameN s.idx t.idx k = true)) (fun i _ => s.idx.length - (intOf i).toNat)
      case atStart => exact ⟨0, Nat.zero_le _, rfl, hbl, HK1.out, HK2.out, Lib.hid rfl⟩
      case round =>
        clear hbl hsz s1 s2 u1 u2 hlt1 hlt2 HK1 HK2 hlt hk
        obtain ⟨k, hk, rfl, hbl, hk1, hk2, hall⟩ := hrel
        have hsz := hbl.size
        have s1 := hk1.cell 1
        have s2 := hk1.cell 2
        have hlt1 := hk1.lt
        have u1 := hk2.cell 1
        have u2 := hk2.cell 2
        have hlt2 := hk2.lt
        simp only [List.getElem?_toArray, List.getElem?_cons_zero, List.getElem?_cons_succ] at s1 s2 u1 u2
        have HK1 := Lib.hid hk1
        have HK2 := Lib.hid hk2
        clear hk1 hk2
        by_cases hlt : k < s.idx.length
        · have hlt3 : k < t.idx.length := by have := HXL.out; omega
          have hlti : (k : Int) < t.idx.length := by omega
          rcases HI.out with h | ⟨b1, o1, rfl, hb1, hcell1⟩
          · rw [h] at hlt; simp at hlt
          rcases HI'.out with h | ⟨b2, o2, rfl, hb2, hcell2⟩
          · rw [h] at hlt3; simp at hlt3
          obtain ⟨A1, c1, x0, x1, x2, _⟩ := hcell1 k hlt
          obtain ⟨A2, c2, y0, y1, y2, _⟩ := hcell2 k hlt3
          replace x0 := (hbl.cell (p := ⟨b1, o1 + k * 2, none⟩) hb1).trans x0
          replace x1 := (hbl.cell (p := ⟨b1, o1 + k * 2 + 1, none⟩) hb1).trans x1
          replace y0 := (hbl.cell (p := ⟨b2, o2 + k * 2, none⟩) hb2).trans y0
          replace y1 := (hbl.cell (p := ⟨b2, o2 + k * 2 + 1, none⟩) hb2).trans y1
          have hbx : b1 < wr.heap.size := Nat.lt_of_lt_of_le hb1 hsz
          have hby : b2 < wr.heap.size := Nat.lt_of_lt_of_le hb2 hsz
          have HX2 := Lib.hid (x2.keep hbl)
          have HY2 := Lib.hid (y2.keep hbl)
          have hfx := (HFI.out _ (getD_in s.idx k hlt)).len
          have hfy := (HFI'.out _ (getD_in t.idx k hlt3)).len
          have HS := Lib.hid (sameN_succ s.idx t.idx k)
          have HNO := Lib.hid (sameN_no s.idx t.idx s.idx.length k hlt)
          clear hcell1 hcell2 x2 y2
          generalize s.idx.getD k default = x at *
          generalize t.idx.getD k default = y at *
          obtain ⟨xc, xu⟩ := x
          obtain ⟨yc, yu⟩ := y
          simp only at x0 x1 y0 y1 HX2 HY2 hfx hfy
          have C' := fun W hW hW2 => refsameI_any A1 A2 xc.length c1 yc.length c2 xc yc W hW hW2 rfl rfl hfx hfy
          obtain ⟨q, hq⟩ : ∃ q, q = decide (xc = yc) := ⟨_, rfl⟩
          rw [← hq] at C'
          have C := Lib.hid C'
          have HQ := Lib.hid (show sameI ⟨xc, xu⟩ ⟨yc, yu⟩ = ((xu == yu) && q) from by rw [hq]; rfl)
          clear C' hq
          cases xu <;> cases yu
          case false.true =>
            have HZ := Lib.hid (show r = false from by rw [HX.out]; exact HNO.out (by rw [HQ.out]; rfl))
            go_upto_region 11 with fail
            go_quiet (fail)
            go_wp2
            go_ret
            exact ⟨ret_bool HZ.out.symm, below_drewN hbl _⟩
          case true.false =>
            have HZ := Lib.hid (show r = false from by rw [HX.out]; exact HNO.out (by rw [HQ.out]; rfl))
            go_upto_region 11 with fail
            go_quiet (fail)
            go_wp2
            go_ret
            exact ⟨ret_bool HZ.out.symm, below_drewN hbl _⟩
          all_goals
            cases q with
            | false =>
              have HZ := Lib.hid (show r = false from by rw [HX.out]; exact HNO.out (by rw [HQ.out]; rfl))
              go_upto_region 11 with fail
              go_quiet ((go_at_call 33/-f-/; exact Calls.quiet_of (C.out _ HX2.out HY2.out)))
              go_wp2
              go_ret
              exact ⟨ret_bool HZ.out.symm, below_drewN hbl _⟩
            | true =>
              have HO := Lib.hid (show sameN s.idx t.idx (k + 1) = true from by rw [HS.out, hall.out, HQ.out]; rfl)
              go_upto_region 11 with fail
              go_quiet ((go_at_call 33/-f-/; exact Calls.quiet_of (C.out _ HX2.out HY2.out)))
              go_wp2
              go_roundw
              case rel => exact ⟨k + 1, by omega, by go_num, below_drewN hbl _, HK1.out, HK2.out, HO⟩
              case measure => simp [intOf]; omega
        · have hkl : k = s.idx.length := by omega
          subst hkl
          have HZ := Lib.hid (show r = true from by rw [HX.out]; exact hall.out)
          go_wp2
          go_ret
          exact ⟨ret_bool HZ.out.symm, hbl⟩
end Go.Proofs.Ytddejkmfffeikaa

/- Contracts of package stream, and of its statements: whether two batches are the same. -/
import Derived.Test.YtacangeamdcgdaaStf
import Derived.Test.YtacangeamdcgdaaVrw
namespace Go.Proofs.Ytacangeamdcgdaa
open Go.ChangeShapes Go.WideShapes Go.ChangeAt Go.RowKit
set_option maxRecDepth 100000 in
set_option maxHeartbeats 8000000 in
theorem valsame_any (A B : Option Addr) (n c m d : Nat) (xs ys : List Val) (w : World) (hA : Vals w A xs) (hB : Vals w B ys) (hn : xs.length = n) (hm : ys.length = m) (hs : n ≤ 1000000) (hs' : m ≤ 1000000) :
    Calls Try.prog 49/-f-/ #[.slice A n c, .slice B m d] w fun e w' => e = .returned (.bool (decide (xs = ys))) ∧ ∃ k, w' = w.drewN k := by
  subst hn hm
  have E := fun (a b a' b' : Int) (c c' : ByteArray) (W : World) => eqVal a b a' b' c c' W
  have hg := guardVal
  by_cases hl : xs.length = ys.length
  · have hlb : ((xs.length : Int) == ys.length) = true := by rw [hl]; exact beq_self_eq_true _
    have hlb2 : ((xs.length : Int) != ys.length) = false := by rw [hl]; simp
    have HL := Lib.hid hl
    have HA := Lib.hid hA
    have HB := Lib.hid hB
    clear hA hB hl
    have hEq : ∀ b : Bool, b = decide (xs = ys) → Calls Try.prog 49/-f-/ #[.slice A xs.length c, .slice B ys.length d] w fun e w' => e = .returned (.bool b) ∧ ∃ k, w' = w.drewN k := by
      intro b hb
      have HBB := Lib.hid hb
      clear hb
      go_enter Try.func49/-f-/, Try.ntmps49/-f-/
      go_wp2
      go_loopw [5, 13] (fun _ i wr => ∃ k : Nat, k ≤ xs.length ∧ i = .int .i64 k ∧ (∃ m, wr = w.drewN m) ∧ Hid (xs.take k = ys.take k)) (fun _ i _ => xs.length - (intOf i).toNat)
      case atStart => exact ⟨0, Nat.zero_le _, rfl, ⟨0, rfl⟩, Lib.hid rfl⟩
      case round =>
        obtain ⟨k, hk, rfl, ⟨m, rfl⟩, heq⟩ := hrel
        by_cases hlt : k < xs.length
        · have hlt2 : k < ys.length := by have := HL.out; omega
          obtain ⟨b1, o1, rfl, hb1, hz1, x0, x1, x2⟩ := HA.out.at_ (Below.refl _ _) k hlt
          obtain ⟨b2, o2, rfl, hb2, hz2, y0, y1, y2⟩ := HB.out.at_ (Below.refl _ _) k hlt2
          have HT1 := Lib.hid (show xs.take (k + 1) = xs.take k ++ [xs.getD k default] from by rw [List.take_succ_eq_append_getElem hlt]; simp [List.getD, List.getElem?_eq_getElem hlt])
          have HT2 := Lib.hid (show ys.take (k + 1) = ys.take k ++ [ys.getD k default] from by rw [List.take_succ_eq_append_getElem hlt2]; simp [List.getD, List.getElem?_eq_getElem hlt2])
          generalize xs.getD k default = x at *
          generalize ys.getD k default = y at *
          go_upto_region 6 with fail
          go_quiet (fail)
          have hd : ((!x.k == y.k) || (!x.n == y.n) || !decide (x.s = y.s)) = !eqB x y := by unfold eqB; simp [Bool.not_and]
          rw [hd, World.drewN_drewN]
          clear hd E
          cases hq : eqB x y with
          | true =>
            have hxy := (eqB_iff x y).1 hq
            have HT := Lib.hid (show xs.take (k + 1) = ys.take (k + 1) from by rw [HT1.out, HT2.out, heq.out, hxy])
            clear hq hxy x0 x1 x2 y0 y1 y2
            go_wp2
            go_roundw
            case rel => exact ⟨k + 1, hlt, rfl, ⟨_, rfl⟩, HT⟩
            case measure => simp [intOf]; omega
          | false =>
            have HF := Lib.hid (show b = false from by
              rw [HBB.out]
              refine decide_eq_false fun h => ?_
              have e1 : xs.take (k + 1) = ys.take (k + 1) := by rw [h]
              rw [HT1.out, HT2.out, heq.out] at e1
              have e2 := List.append_cancel_left e1
              have e3 : x = y := by simpa using e2
              rw [(eqB_iff x y).2 e3] at hq
              cases hq)
            clear hq x0 x1 x2 y0 y1 y2
            go_wp2
            go_ret
            exact ⟨by rw [HF.out] <;> rfl, _, rfl⟩
        · obtain rfl : k = xs.length := by omega
          have HF := Lib.hid (show b = true from by
            rw [HBB.out]
            refine decide_eq_true ?_
            have := heq.out
            rw [List.take_length] at this
            rw [this, HL.out, List.take_length])
          go_wp2
          go_ret
          exact ⟨by rw [HF.out] <;> rfl, _, rfl⟩
    exact hEq _ rfl
  · have hlb : ((xs.length : Int) == ys.length) = false := beq_eq_false_iff_ne.2 (by omega)
    have hlb2 : ((xs.length : Int) != ys.length) = true := by simp [bne, hlb]
    have hne : decide (xs = ys) = false := decide_eq_false (fun h => hl (by rw [h]))
    rw [hne]
    clear hne hl
    go_enter Try.func49/-f-/, Try.ntmps49/-f-/
    go_wp2
    go_ret
    exact ⟨rfl, 0, rfl⟩
set_option maxRecDepth 100000 in
set_option maxHeartbeats 8000000 in
theorem rowsame_any (A B : Option Addr) (n c m d : Nat) (xs ys : List (List Val)) (w : World) (hA : Rowz w A xs) (hB : Rowz w B ys) (hn : xs.length = n) (hm : ys.length = m) (hs : n ≤ 1000000) (hs' : m ≤ 1000000) (hx : ∀ r ∈ xs, r.length ≤ 1000000) (hy : ∀ r ∈ ys, r.length ≤ 1000000) :
    Calls Try.prog 44/-f-/ #[.slice A n c, .slice B m d] w fun e w' => e = .returned (.bool (decide (xs = ys))) ∧ ∃ k, w' = w.drewN k := by
  subst hn hm
  by_cases hl : xs.length = ys.length
  · have hlb : ((xs.length : Int) == ys.length) = true := by rw [hl]; exact beq_self_eq_true _
    have HL := Lib.hid hl
    have HA := Lib.hid hA
    have HB := Lib.hid hB
    have HX := Lib.hid hx
    have HY := Lib.hid hy
    clear hA hB hl hx hy
    obtain ⟨r, hr⟩ : ∃ r, r = decide (xs = ys) := ⟨_, rfl⟩
    rw [← hr]
    have HR := Lib.hid hr
    clear hr
    go_enter Try.func44, Try.ntmps44
    go_wp2
    go_loopw [5] (fun i wr => ∃ k : Nat, k ≤ xs.length ∧ i = .int .i64 k ∧ (∃ m, wr = w.drewN m) ∧ Hid (xs.take k = ys.take k)) (fun i _ => xs.length - (intOf i).toNat)
    case atStart => exact ⟨0, Nat.zero_le _, rfl, ⟨0, rfl⟩, Lib.hid rfl⟩
    case round =>
      obtain ⟨k, hk, rfl, hwr, heq⟩ := hrel
      have HAR := Lib.hid (show Rowz wr A xs from by obtain ⟨m, rfl⟩ := hwr; exact HA.out)
      have HBR := Lib.hid (show Rowz wr B ys from by obtain ⟨m, rfl⟩ := hwr; exact HB.out)
      have HWR := Lib.hid hwr
      clear hwr
      by_cases hlt : k < xs.length
      · have hlt2 : k < ys.length := by have := HL.out; omega
        rcases HAR.out with h | ⟨b1, o1, rfl, hb1, hcell1⟩
        · subst h; simp at hlt
        rcases HBR.out with h | ⟨b2, o2, rfl, hb2, hcell2⟩
        · subst h; simp at hlt2
        obtain ⟨A1, c1, x0, hv1⟩ := hcell1 k hlt
        obtain ⟨A2, c2, y0, hv2⟩ := hcell2 k hlt2
        have HT1 := Lib.hid (show xs.take (k + 1) = xs.take k ++ [xs.getD k []] from by rw [List.take_succ_eq_append_getElem hlt]; simp [List.getD, List.getElem?_eq_getElem hlt])
        have HT2 := Lib.hid (show ys.take (k + 1) = ys.take k ++ [ys.getD k []] from by rw [List.take_succ_eq_append_getElem hlt2]; simp [List.getD, List.getElem?_eq_getElem hlt2])
        have l1 := HX.out (xs.getD k []) (by simp [List.getD, hlt])
        have l2 := HY.out (ys.getD k []) (by simp [List.getD, hlt2])
        clear hcell1 hcell2
        generalize xs.getD k [] = x at *
        generalize ys.getD k [] = y at *
        have SM := Lib.hid (fun j => refsame_any A1 A2 x.length c1 y.length c2 x y (wr.drewN j) hv1 hv2 rfl rfl l1 l2)
        obtain ⟨q, hq⟩ : ∃ q, q = decide (x = y) := ⟨_, rfl⟩
        rw [← hq] at SM
        have HQ := Lib.hid hq
        clear hv1 hv2 hq
        go_upto_region 6 with fail
        go_quiet ((go_at_call 70/-f-/; exact Calls.quiet_of (SM.out _)))
        cases q with
        | true =>
          have hxy : x = y := of_decide_eq_true HQ.out.symm
          have HT := Lib.hid (show xs.take (k + 1) = ys.take (k + 1) from by rw [HT1.out, HT2.out, heq.out, hxy])
          clear hxy x0 y0
          go_wp2
          go_roundw
          case rel => exact ⟨k + 1, hlt, rfl, (by obtain ⟨m, hm⟩ := HWR.out; exact ⟨_, by rw [hm, World.drewN_drewN]⟩), HT⟩
          case measure => simp [intOf]; omega
        | false =>
          have HF := Lib.hid (show r = false from by
            rw [HR.out]
            refine decide_eq_false fun h => ?_
            have e1 : xs.take (k + 1) = ys.take (k + 1) := by rw [h]
            rw [HT1.out, HT2.out, heq.out] at e1
            have e2 := List.append_cancel_left e1
            have e3 : x = y := by simpa using e2
            have := HQ.out
            rw [decide_eq_true e3] at this
            cases this)
          go_wp2
          go_ret
          exact ⟨ret_bool HF.out.symm, (by obtain ⟨m, hm⟩ := HWR.out; exact ⟨_, by rw [hm, World.drewN_drewN]⟩)⟩
      · have hkl : k = xs.length := by omega
        have HT := Lib.hid (show r = true from by
          rw [HR.out]
          refine decide_eq_true ?_
          have := heq.out
          rw [hkl, List.take_length, HL.out, List.take_length] at this
          exact this)
        subst hkl
        go_wp2
        go_ret
        exact ⟨ret_bool HT.out.symm, HWR.out⟩
  · have hlb : ((xs.length : Int) == ys.length) = false := beq_eq_false_iff_ne.2 (by omega)
    have hne : decide (xs = ys) = false := decide_eq_false (fun h => hl (by rw [h]))
    rw [hne]
    clear hl hne
    go_enter Try.func44, Try.ntmps44
    go_wp2
    go_ret
    exact ⟨rfl, 0, rfl⟩
set_option maxRecDepth 100000 in
set_option maxHeartbeats 8000000 in
theorem rowseq_any (A B : Option Addr) (n c m d : Nat) (xs ys : List (List Val)) (w : World) (hA : Rowz w A xs) (hB : Rowz w B ys) (hn : xs.length = n) (hm : ys.length = m) (hs : n ≤ 1000000) (hs' : m ≤ 1000000) (hx : ∀ r ∈ xs, r.length ≤ 1000000) (hy : ∀ r ∈ ys, r.length ≤ 1000000) :
    Calls Try.prog 48/-f-/ #[.slice A n c, .slice B m d, .func (.func 49) #[] #[]] w fun e w' => e = .returned (.bool (decide (xs = ys))) ∧ Below w.heap.size w w' := by
  subst hn hm
  obtain ⟨r, hr⟩ : ∃ r, r = decide (xs = ys) := ⟨_, rfl⟩
  rw [← hr]
  have HR := Lib.hid hr
  have HA := Lib.hid hA
  have HB := Lib.hid hB
  have HX := Lib.hid hx
  have HY := Lib.hid hy
  clear hr hA hB hx hy
  by_cases hl : xs.length = ys.length
  · have hlb : ((xs.length : Int) == ys.length) = true := by rw [hl]; exact beq_self_eq_true _
    have hlb2 : ((xs.length : Int) != ys.length) = false := by rw [hl]; simp
    have HL := Lib.hid hl
    clear hl
    go_enter Try.func48, Try.ntmps48
    go_wp2
    go_loopw [7, 8, 9, 17] (fun _ _ _ i wr => ∃ k : Nat, k ≤ xs.length ∧ i = .int .i64 k ∧ Hid (Below w.heap.size w wr) ∧ Hid (xs.take k = ys.take k)) (fun _ _ _ i _ => xs.length - (intOf i).toNat)
    case atStart => exact ⟨0, Nat.zero_le _, rfl, Lib.hid (Below.refl _ _), Lib.hid rfl⟩
    case round =>
      obtain ⟨k, hk, rfl, hbl, heq⟩ := hrel
      have hsz := hbl.out.size
      by_cases hlt : k < xs.length
      · have hlt2 : k < ys.length := by have := HL.out; omega
        have hlti : (k : Int) < ys.length := by omega
        obtain ⟨b1, o1, rfl, hb1, A1, c1, x0, hv1⟩ := rowz_at (HA.out.below hbl.out) hlt
        obtain ⟨b2, o2, rfl, hb2, A2, c2, y0, hv2⟩ := rowz_at (HB.out.below hbl.out) hlt2
        have HT1 := Lib.hid (show xs.take (k + 1) = xs.take k ++ [xs.getD k []] from by rw [List.take_succ_eq_append_getElem hlt]; simp [List.getD, List.getElem?_eq_getElem hlt])
        have HT2 := Lib.hid (show ys.take (k + 1) = ys.take k ++ [ys.getD k []] from by rw [List.take_succ_eq_append_getElem hlt2]; simp [List.getD, List.getElem?_eq_getElem hlt2])
        have l1 := HX.out (xs.getD k []) (by simp [List.getD, hlt])
        have l2 := HY.out (ys.getD k []) (by simp [List.getD, hlt2])
        generalize xs.getD k [] = x at *
        generalize ys.getD k [] = y at *
        have SM' := valsame_any A1 A2 x.length c1 y.length c2 x y wr hv1 hv2 rfl rfl l1 l2
        obtain ⟨q, hq⟩ : ∃ q, q = decide (x = y) := ⟨_, rfl⟩
        rw [← hq] at SM'
        have SM := Lib.hid SM'
        have HQ := Lib.hid hq
        clear hv1 hv2 hq SM'
        cases q with
        | true =>
          have hxy : x = y := of_decide_eq_true HQ.out.symm
          have HT := Lib.hid (show xs.take (k + 1) = ys.take (k + 1) from by rw [HT1.out, HT2.out, heq.out, hxy])
          clear hxy
          go_wp2_with (go_at_call 49/-f-/; (with_reducible refine SM.out.mono ?_); rintro e w2 ⟨rfl, j, rfl⟩)
          go_roundw
          case rel => exact ⟨k + 1, hlt, by go_num, Lib.hid (below_drewN hbl.out _), HT⟩
          case measure => simp [intOf]; omega
        | false =>
          have HF := Lib.hid (show r = false from by
            rw [HR.out]
            refine decide_eq_false fun h => ?_
            have e1 : xs.take (k + 1) = ys.take (k + 1) := by rw [h]
            rw [HT1.out, HT2.out, heq.out] at e1
            have e2 := List.append_cancel_left e1
            have e3 : x = y := by simpa using e2
            have := HQ.out
            rw [decide_eq_true e3] at this
            cases this)
          go_wp2_with (go_at_call 49/-f-/; (with_reducible refine SM.out.mono ?_); rintro e w2 ⟨rfl, j, rfl⟩)
          go_ret
          exact ⟨ret_bool HF.out.symm, below_drewN hbl.out _⟩
      · have hkl : k = xs.length := by omega
        have HT := Lib.hid (show r = true from by
          rw [HR.out]
          refine decide_eq_true ?_
          have := heq.out
          rw [hkl, List.take_length, HL.out, List.take_length] at this
          exact this)
        subst hkl
        go_wp2
        go_ret
        exact ⟨ret_bool HT.out.symm, hbl.out⟩
  · have hlb : ((xs.length : Int) == ys.length) = false := beq_eq_false_iff_ne.2 (by omega)
    have hlb2 : ((xs.length : Int) != ys.length) = true := by simp [bne, hlb]
    have HF := Lib.hid (show r = false from by rw [HR.out]; exact decide_eq_false (fun h => hl (by rw [h])))
    clear hl
    go_enter Try.func48, Try.ntmps48
    go_wp2
    go_ret
    exact ⟨ret_bool HF.out.symm, Below.refl _ _⟩
set_option maxRecDepth 100000 in
set_option maxHeartbeats 4000000 in
theorem bsame_any (i j : Int) (A B : Option Addr) (c d : Nat) (xs ys : List (List Val)) (w : World) (hA : Rowz w A xs) (hB : Rowz w B ys) (hs : xs.length ≤ 1000000) (hs' : ys.length ≤ 1000000) (hx : ∀ r ∈ xs, r.length ≤ 1000000) (hy : ∀ r ∈ ys, r.length ≤ 1000000) :
    Calls Try.prog 26/-f-/ #[.agg #[.int .i64 i, .slice A xs.length c], .agg #[.int .i64 j, .slice B ys.length d]] w fun e w' => e = .returned (.bool (i == j && decide (xs = ys))) ∧ Below w.heap.size w w' := by
  have b2 := (below_alloc w (.cells #[.int .i64 i, .slice A xs.length c] 38)).alloc (by simp) (.cells #[.int .i64 j, .slice B ys.length d] 38)
  have C' := rowseq_any A B xs.length c ys.length d xs ys _ (hA.below b2) (hB.below b2) rfl rfl hs hs' hx hy
  have HB := Lib.hid b2
  generalize decide (xs = ys) = q at *
  have C := Lib.hid C'
  clear C' hA hB b2
  by_cases hij : i = j
  · have e1 : (i == j) = true := by rw [hij]; exact beq_self_eq_true _
    rw [e1]
    clear hij
    go_enter Try.func26, Try.ntmps26
    go_wp2_with (go_at_call 48/-f-/; (with_reducible refine C.out.mono ?_); rintro e w2 ⟨rfl, hb⟩; have H2 := Lib.hid (HB.out.trans (hb.mono HB.out.size)); clear hb)
    go_ret
    exact ⟨ret_bool (by simp), H2.out⟩
  · have e1 : (i == j) = false := beq_eq_false_iff_ne.2 hij
    rw [e1]
    clear hij
    go_enter Try.func26, Try.ntmps26
    go_wp2
    go_ret
    exact ⟨ret_bool (by simp), HB.out⟩
set_option maxRecDepth 100000 in
set_option maxHeartbeats 4000000 in
theorem lsame_any (i j : Int) (A B : Option Addr) (c d : Nat) (xs ys : List (List Val)) (w : World) (hA : Rowz w A xs) (hB : Rowz w B ys) (hs : xs.length ≤ 1000000) (hs' : ys.length ≤ 1000000) (hx : ∀ r ∈ xs, r.length ≤ 1000000) (hy : ∀ r ∈ ys, r.length ≤ 1000000) :
    Calls Try.prog 23/-f-/ #[.agg #[.int .i64 i, .slice A xs.length c], .agg #[.int .i64 j, .slice B ys.length d]] w fun e w' => e = .returned (.bool (i == j && decide (xs = ys))) ∧ Below w.heap.size w w' := by
  have b2 := (below_alloc w (.cells #[.int .i64 i, .slice A xs.length c] 38)).alloc (by simp) (.cells #[.int .i64 j, .slice B ys.length d] 38)
  have C' := rowsame_any A B xs.length c ys.length d xs ys _ (hA.below b2) (hB.below b2) rfl rfl hs hs' hx hy
  have HB := Lib.hid b2
  generalize decide (xs = ys) = q at *
  have C := Lib.hid C'
  clear C' hA hB b2
  by_cases hij : i = j
  · have e1 : (i == j) = true := by rw [hij]; exact beq_self_eq_true _
    rw [e1]
    clear hij
    go_enter Try.func23, Try.ntmps23
    go_wp2_with (go_at_call 44/-f-/; (with_reducible refine C.out.mono ?_); rintro e w2 ⟨rfl, j2, rfl⟩; have H2 := Lib.hid (below_drewN HB.out j2))
    go_ret
    exact ⟨ret_bool (by simp), H2.out⟩
  · have e1 : (i == j) = false := beq_eq_false_iff_ne.2 hij
    rw [e1]
    clear hij
    go_enter Try.func23, Try.ntmps23
    go_wp2
    go_ret
    exact ⟨ret_bool (by simp), HB.out⟩
end Go.Proofs.Ytacangeamdcgdaa

/- Contracts of package schema: the document's Pick; whether a row fits columns. -/
import Derived.Test.YtddejkmfffeikaaPck
namespace Go.Proofs.Ytddejkmfffeikaa
open Go.ChangeShapes Go.WideShapes Go.ChangeAt Go.RowKit
set_option maxRecDepth 100000 in
set_option maxHeartbeats 8000000 in
theorem refpick_any (A B : Option Addr) (n c m d : Nat) (vs : List Val) (xs : List Int) (w : World) (hA : Vals w A vs) (hB : Ints w .i64 B xs) (hn : vs.length = n) (hm : xs.length = m) (hall : xs.all (inB vs.length) = true) (hs : n ≤ 1000000) (hs' : m ≤ 1000000) :
    Calls Try.prog 28/-f-/ #[.slice A n c, .slice B m d] w fun e w' => (∃ u, e = .returned u ∧ RowV w' w.heap.size u (pickL vs xs)) ∧ Below w.heap.size w w' := by
  subst hn hm
  obtain ⟨i0, hi, hz0, hz1, hz2⟩ := info_parts info35
  obtain ⟨R, hR⟩ : ∃ R, R = pickL vs xs := ⟨_, rfl⟩
  rw [← hR]
  have HR := Lib.hid (show R = xs.map (atV vs) from by rw [hR]; unfold pickL; rw [if_pos hall])
  have HA := Lib.hid hA
  have HB := Lib.hid hB
  have HALL := Lib.hid (fun x hx => List.all_eq_true.1 hall x hx)
  clear hR hA hB hall
  go_enter Try.func28, Try.ntmps28
  go_wp2
  go_loopw [5, 6] (fun v i wr => ∃ k : Nat, k ≤ xs.length ∧ i = .int .i64 k ∧ Below w.heap.size w wr ∧ RowV wr w.heap.size v ((xs.take k).map (atV vs))) (fun _ i _ => xs.length - (intOf i).toNat)
  case atStart => exact ⟨0, Nat.zero_le _, rfl, Below.refl _ _, World.ownsRow_nil _ _ _ _⟩
  case round =>
    obtain ⟨k, hk, rfl, hbl, hrow⟩ := hrel
    have hsz := hbl.size
    have HROW := Lib.hid hrow
    clear hrow
    by_cases hlt : k < xs.length
    · rcases HB.out with h | ⟨b, off, rfl, hbw, hcell⟩
      · subst h; simp at hlt
      have x0 := (hbl.cell (p := ⟨b, off + k, none⟩) hbw).trans (hcell k hlt)
      have hbw2 : b < wr.heap.size := Nat.lt_of_lt_of_le hbw hsz
      have HT := Lib.hid (take_succ_i xs k hlt)
      have hin := HALL.out (xs.getD k 0) (by simp [List.getD, List.getElem?_eq_getElem hlt])
      clear hcell
      generalize xs.getD k 0 = x at *
      unfold inB at hin
      simp only [Bool.and_eq_true, decide_eq_true_eq] at hin
      obtain ⟨p, hp⟩ : ∃ p : Nat, x = p := ⟨x.toNat, by omega⟩
      subst hp
      have hpl : p < vs.length := by omega
      rcases HA.out with h | ⟨b2, off2, rfl, hbw3, hcell⟩
      · subst h; simp at hpl
      obtain ⟨y0, y1, y2⟩ := hcell p hpl
      replace y0 := (hbl.cell (p := ⟨b2, off2 + p * 3, none⟩) hbw3).trans y0
      replace y1 := (hbl.cell (p := ⟨b2, off2 + p * 3 + 1, none⟩) hbw3).trans y1
      replace y2 := (hbl.cell (p := ⟨b2, off2 + p * 3 + 2, none⟩) hbw3).trans y2
      have hbw4 : b2 < wr.heap.size := Nat.lt_of_lt_of_le hbw3 hsz
      have HAT := Lib.hid (show atV vs (p : Int) = vs.getD p default from by unfold atV; simp)
      have hlk : ((xs.take k).map (atV vs)).length = k := by rw [List.length_map, List.length_take]; omega
      obtain ⟨acc, hacc⟩ : ∃ acc, acc = (xs.take k).map (atV vs) := ⟨_, rfl⟩
      rw [← hacc] at HROW hlk
      have HACC := Lib.hid hacc
      clear hcell hacc hin
      generalize vs.getD p default = y at *
      obtain ⟨yk, yn, ys⟩ := y
      simp only at y0 y1 y2
      go_wp2_with (at_builtin; refine wpList_append_src _ rfl _ _ 35 rfl w.heap.size 55 i0 (.agg #[.int .i64 0, .int .i64 0, .string ⟨#[]⟩]) 3 32 Try.underlying35/-t-/ hi hz0 hz1 hz2 rfl (by decide) u5 acc.length _ rfl (World.ownsRow.alloc HROW.out _) (some ⟨wr.heap.size, 0, none⟩) 1 1 [.int .i64 yk, .int .i64 yn, .string ys] rfl (Src.val wr ⟨yk, yn, ys⟩) (by unfold maxLen; omega) (by omega) (by simp; omega) ?_; intro v3 w3 hown3 hgr3 hnew3; have HO3 := Lib.hid hown3; have HG3 := Lib.hid hgr3; clear hown3 hgr3 hnew3)
      go_roundw
      case rel =>
        refine ⟨k + 1, by omega, by go_num, (hbl.alloc hsz _).grown HG3.out (by simp; omega) (fun g h => (HROW.out.lt g h).1), ?_⟩
        have h3 := HO3.out
        rw [HT.out, List.map_append, ← HACC.out, List.map_singleton, HAT.out]
        unfold RowV
        rw [vcells_append, List.length_append]
        exact h3
      case measure => simp [intOf]; omega
    · have hkl : k = xs.length := by omega
      subst hkl
      rw [List.take_length, ← HR.out] at HROW
      obtain ⟨A5, c5, rfl⟩ := own_slice HROW.out
      go_wp2
      go_ret
      exact ⟨⟨_, rfl, HROW.out⟩, hbl⟩
/-- The kinds of a row are those of columns. -/
def kindsB (cs : List Col) (vs : List Val) (n : Nat) : Bool := (List.range n).all fun i => (vs.getD i default).k == (cs.getD i default).kd
def fitsB (cs : List Col) (vs : List Val) : Bool := decide (vs.length = cs.length) && rall vs && kindsB cs vs vs.length
theorem kindsB_succ (cs : List Col) (vs : List Val) (n : Nat) : kindsB cs vs (n + 1) = (kindsB cs vs n && ((vs.getD n default).k == (cs.getD n default).kd)) := by
  unfold kindsB
  rw [List.range_succ, List.all_append]; simp
theorem kindsB_no (cs : List Col) (vs : List Val) (n k : Nat) (hk : k < n) (h : ((vs.getD k default).k == (cs.getD k default).kd) = false) : kindsB cs vs n = false := by
  unfold kindsB
  rw [List.all_eq_false]
  exact ⟨k, by simpa using hk, by rw [h]; simp⟩
set_option maxRecDepth 100000 in
set_option maxHeartbeats 8000000 in
theorem fits_any (A B : Option Addr) (n c m d : Nat) (cs : List Col) (vs : List Val) (w : World) (hA : Cols w A cs) (hB : Vals w B vs) (hn : cs.length = n) (hm : vs.length = m) (hf : ∀ x ∈ vs, FitV x) (hs : n ≤ 1000000) (hs' : m ≤ 1000000) :
    Calls Try.prog 43/-f-/ #[.slice A n c, .slice B m d] w fun e w' => e = .returned (.bool (fitsB cs vs)) ∧ Below w.heap.size w w' := by
  subst hn hm
  obtain ⟨r, hr⟩ : ∃ r, r = fitsB cs vs := ⟨_, rfl⟩
  rw [← hr]
  have HR := Lib.hid hr
  clear hr
  by_cases hl : vs.length = cs.length
  · have hlb : ((vs.length : Int) == cs.length) = true := by rw [hl]; exact beq_self_eq_true _
    have hlb2 : ((vs.length : Int) != cs.length) = false := by rw [hl]; simp
    have HL := Lib.hid hl
    have C1 := Lib.hid (rightall_any B vs.length d vs w hB rfl hf hs')
    have HA := Lib.hid hA
    have HB := Lib.hid hB
    obtain ⟨q, hq⟩ : ∃ q, q = rall vs := ⟨_, rfl⟩
    rw [← hq] at C1
    have HQ := Lib.hid hq
    clear hA hB hq hl
    cases q with
    | false =>
      have HX := Lib.hid (show r = false from by rw [HR.out]; unfold fitsB; rw [← HQ.out]; simp)
      go_enter Try.func43, Try.ntmps43
      go_wp2_with (go_at_call 59/-f-/; refine C1.out.mono ?_; rintro e w1 ⟨rfl, hb1⟩)
      go_ret
      exact ⟨ret_bool HX.out.symm, hb1⟩
    | true =>
      have HRK := Lib.hid (show r = kindsB cs vs vs.length from by rw [HR.out]; unfold fitsB; rw [← HQ.out, decide_eq_true HL.out]; simp)
      go_enter Try.func43, Try.ntmps43
      go_wp2_with (go_at_call 59/-f-/; refine C1.out.mono ?_; rintro e w1 ⟨rfl, hb1⟩)
      go_loopw [5, 6, 19] (fun _ _ i wr => ∃ k : Nat, k ≤ vs.length ∧ i = .int .i64 k ∧ Below w.heap.size w wr ∧ Hid (kindsB cs vs k = true)) (fun _ _ i _ => vs.length - (intOf i).toNat)
      case atStart => exact ⟨0, Nat.zero_le _, rfl, hb1, Lib.hid rfl⟩
      case round =>
        obtain ⟨k, hk, rfl, hbl, hall⟩ := hrel
        have hsz := hbl.size
        by_cases hlt : k < vs.length
        · have hltc : k < cs.length := by have := HL.out; omega
          have hlti : (k : Int) < cs.length := by omega
          rcases HB.out with h | ⟨b, off, rfl, hbw, hcell⟩
          · subst h; simp at hlt
          obtain ⟨x0, x1, x2⟩ := hcell k hlt
          replace x0 := (hbl.cell (p := ⟨b, off + k * 3, none⟩) hbw).trans x0
          replace x1 := (hbl.cell (p := ⟨b, off + k * 3 + 1, none⟩) hbw).trans x1
          replace x2 := (hbl.cell (p := ⟨b, off + k * 3 + 2, none⟩) hbw).trans x2
          have hbw2 : b < wr.heap.size := Nat.lt_of_lt_of_le hbw hsz
          rcases HA.out with h | ⟨b2, off2, rfl, hbw3, hcell2⟩
          · subst h; simp at hltc
          obtain ⟨y0, y1⟩ := hcell2 k hltc
          replace y1 := (hbl.cell (p := ⟨b2, off2 + k * 2 + 1, none⟩) hbw3).trans y1
          have hbw4 : b2 < wr.heap.size := Nat.lt_of_lt_of_le hbw3 hsz
          have HS := Lib.hid (kindsB_succ cs vs k)
          have HN := Lib.hid (kindsB_no cs vs vs.length k hlt)
          clear hcell hcell2 y0
          generalize vs.getD k default = x at *
          generalize cs.getD k default = y at *
          obtain ⟨xk, xn, xs⟩ := x
          obtain ⟨ynm, ykd⟩ := y
          simp only at x0 x1 x2 y1 HS HN
          go_upto_region 6 with fail
          go_quiet (fail)
          by_cases hxy : xk = ykd
          · have e1 : (xk == ykd) = true := by rw [hxy]; exact beq_self_eq_true _
            have e2 : (xk != ykd) = false := by rw [hxy]; simp
            have HO := Lib.hid (HS.out.trans (by rw [hall.out, e1]; try rfl))
            clear hxy x0 x1 x2 y1
            go_wp2
            go_roundw
            case rel => exact ⟨k + 1, by omega, by go_num, (below_drewN (hbl.alloc hsz _) _), HO⟩
            case measure => simp [intOf]; omega
          · have e1 : (xk == ykd) = false := beq_eq_false_iff_ne.2 hxy
            have e2 : (xk != ykd) = true := by simp [bne, e1]
            have HX := Lib.hid (HRK.out.trans (HN.out e1))
            clear hxy x0 x1 x2 y1
            go_wp2
            go_ret
            exact ⟨ret_bool HX.out.symm, below_drewN (hbl.alloc hsz _) _⟩
        · have hkl : k = vs.length := by omega
          subst hkl
          have HX := Lib.hid (HRK.out.trans hall.out)
          go_wp2
          go_ret
          exact ⟨ret_bool HX.out.symm, hbl⟩
  · have hlb : ((vs.length : Int) == cs.length) = false := beq_eq_false_iff_ne.2 (by omega)
    have hlb2 : ((vs.length : Int) != cs.length) = true := by simp [bne, hlb]
    have HX := Lib.hid (show r = false from by rw [HR.out]; unfold fitsB; rw [decide_eq_false hl]; rfl)
    clear hl
    go_enter Try.func43, Try.ntmps43
    go_wp2
    go_ret
    exact ⟨ret_bool HX.out.symm, Below.refl _ _⟩
end Go.Proofs.Ytddejkmfffeikaa

/- Contracts of package value: whether all are right; the document's answers. -/
import Derived.Test.YtacangeamdcgdaaVlb
namespace Go.Proofs.Ytacangeamdcgdaa
open Go.ChangeShapes Go.WideShapes Go.ChangeAt Go.RowKit
def rall (vs : List Val) : Bool := vs.all fun x => rightB x.k x.n x.s
theorem rall_take (vs : List Val) (k : Nat) (h : k < vs.length) : rall (vs.take (k + 1)) = (rall (vs.take k) && rightB (vs.getD k default).k (vs.getD k default).n (vs.getD k default).s) := by
  unfold rall
  rw [List.take_succ_eq_append_getElem h, List.all_append]
  simp [List.getD, List.getElem?_eq_getElem h]
theorem rall_no (vs : List Val) (k : Nat) (h : k < vs.length) (hr : rightB (vs.getD k default).k (vs.getD k default).n (vs.getD k default).s = false) : rall vs = false := by
  unfold rall
  rw [List.all_eq_false]
  refine ⟨vs[k], List.getElem_mem h, ?_⟩
  simp [List.getD, List.getElem?_eq_getElem h] at hr
  simp [hr]
theorem getD_mem (vs : List Val) (k : Nat) (h : k < vs.length) : vs.getD k default ∈ vs := by
  simp [List.getD, List.getElem?_eq_getElem h]
set_option maxHeartbeats 4000000 in
theorem rightall_any (A : Option Addr) (n c : Nat) (vs : List Val) (w : World) (hA : Vals w A vs) (hn : vs.length = n) (hf : ∀ x ∈ vs, FitV x) (hs : n ≤ 1000000) :
    Calls Try.prog 45/-f-/ #[.slice A n c] w fun e w' => e = .returned (.bool (rall vs)) ∧ Below w.heap.size w w' := by
  subst hn
  have HA := Lib.hid hA
  have HF := Lib.hid hf
  clear hA hf
  go_enter Try.func45/-f-/, Try.ntmps45/-f-/
  go_wp2
  go_loopw [7] (fun i wr => ∃ k : Nat, k ≤ vs.length ∧ i = .int .i64 k ∧ Below w.heap.size w wr ∧ Hid (rall (vs.take k) = true)) (fun i _ => vs.length - (intOf i).toNat)
  case atStart => exact ⟨0, Nat.zero_le _, rfl, Below.refl _ _, Lib.hid rfl⟩
  case round =>
    obtain ⟨k, hk, rfl, hbl, hall⟩ := hrel
    have hsz := hbl.size
    by_cases hlt : k < vs.length
    · rcases HA.out with h | ⟨b, off, rfl, hbw, hcell⟩
      · subst h; simp at hlt
      obtain ⟨x0, x1, x2⟩ := hcell k hlt
      replace x0 := (hbl.cell (p := ⟨b, off + k * 3, none⟩) hbw).trans x0
      replace x1 := (hbl.cell (p := ⟨b, off + k * 3 + 1, none⟩) hbw).trans x1
      replace x2 := (hbl.cell (p := ⟨b, off + k * 3 + 2, none⟩) hbw).trans x2
      have hbw2 : b < wr.heap.size := Nat.lt_of_lt_of_le hbw hsz
      have hfs := (HF.out _ (getD_mem vs k hlt)).s
      have HT := Lib.hid (rall_take vs k hlt)
      have HN := Lib.hid (fun h => rall_no vs k hlt h)
      clear hcell
      generalize vs.getD k default = x at *
      obtain ⟨xk, xn, xs⟩ := x
      simp only at x0 x1 x2 hfs
      by_cases hr : rightB xk xn xs = true
      · go_wp2_with (go_at_call 71/-f-/; refine (right_any _ _ _ _ hfs).mono ?_; rintro e w1 ⟨rfl, hb1⟩)
        go_roundw
        case rel => exact ⟨k + 1, by omega, by go_num, (hbl.alloc hsz _).trans (hb1.mono (by simp; omega)), Lib.hid (by rw [HT.out, hall.out, hr]; rfl)⟩
        case measure => simp [intOf]; omega
      · have hr' : rightB xk xn xs = false := by simpa using hr
        clear hr
        go_wp2_with (go_at_call 71/-f-/; refine (right_any _ _ _ _ hfs).mono ?_; rintro e w1 ⟨rfl, hb1⟩)
        go_ret
        exact ⟨ret_bool (HN.out hr').symm, (hbl.alloc hsz _).trans (hb1.mono (by simp; omega))⟩
    · have hkl : k = vs.length := by omega
      subst hkl
      rw [List.take_length] at hall
      go_wp2
      go_ret
      exact ⟨ret_bool hall.out.symm, hbl⟩
set_option maxHeartbeats 4000000 in
theorem refright_any (k n : Int) (s : ByteArray) (w : World) (hs : s.size ≤ 9223372036854775807) :
    Calls Try.prog 85/-f-/ #[.agg #[.int .i64 k, .int .i64 n, .string s]] w fun e w' => e = .returned (.bool (rightB k n s)) ∧ Below w.heap.size w w' := by
  have hbe : Below w.heap.size w (w.alloc (.cells #[.int .i64 k, .int .i64 n, .string s] 93)) := (Below.refl _ _).alloc (Nat.le_refl _) _
  have HBE := Lib.hid hbe
  clear hbe
  have hse : (s.toList == []) = decide (s = ⟨#[]⟩) := by
    by_cases h : s = ⟨#[]⟩
    · subst h; rw [ByteArray.toList_eq]; simp
    · rw [decide_eq_false h]
      exact beq_eq_false_iff_ne.2 (by rw [ByteArray.toList_eq]; intro h2; exact h (ByteArray.ext (Array.toList_inj.1 h2)))
  have HSE := Lib.hid hse
  clear hse
  by_cases h1 : k = 1
  · subst h1
    rw [rightB_1]
    by_cases he : s = ⟨#[]⟩
    · subst he
      go_enter Try.func85/-f-/, Try.ntmps85/-f-/
      go_wp2
      go_ret
      exact ⟨rfl, HBE.out⟩
    · have hq : (s.toList == []) = false := HSE.out.trans (decide_eq_false he)
      rw [decide_eq_false he]
      clear he
      go_enter Try.func85/-f-/, Try.ntmps85/-f-/
      go_wp2
      go_ret
      exact ⟨rfl, HBE.out⟩
  by_cases h2 : k = 2
  · subst h2
    rw [rightB_2]
    clear h1
    by_cases hn : n = 0
    · subst hn
      by_cases hz : s.size ≤ 200
      all_goals
        go_enter Try.func85/-f-/, Try.ntmps85/-f-/
        go_wp2
        go_ret
        exact ⟨ret_bool (by simp [hz]; try omega), HBE.out⟩
    · have hn0 : (n == 0) = false := beq_eq_false_iff_ne.2 hn
      clear hn
      go_enter Try.func85/-f-/, Try.ntmps85/-f-/
      go_wp2
      go_ret
      exact ⟨ret_bool (by simp [hn0]), HBE.out⟩
  by_cases h3 : k = 3
  · subst h3
    rw [rightB_3]
    clear h1 h2
    by_cases hn : n = 0 ∨ n = 1
    · rcases hn with rfl | rfl
      all_goals
        by_cases he : s = ⟨#[]⟩
        · subst he
          go_enter Try.func85/-f-/, Try.ntmps85/-f-/
          go_wp2
          go_ret
          exact ⟨rfl, HBE.out⟩
        · have hq : (s.toList == []) = false := HSE.out.trans (decide_eq_false he)
          rw [decide_eq_false he]
          clear he
          go_enter Try.func85/-f-/, Try.ntmps85/-f-/
          go_wp2
          go_ret
          exact ⟨rfl, HBE.out⟩
    · have hn0 : (n == 0) = false := beq_eq_false_iff_ne.2 (fun h => hn (.inl h))
      have hn1 : (n == 1) = false := beq_eq_false_iff_ne.2 (fun h => hn (.inr h))
      rw [hn0, hn1]
      clear hn
      go_enter Try.func85/-f-/, Try.ntmps85/-f-/
      go_wp2
      go_ret
      exact ⟨rfl, HBE.out⟩
  rw [rightB_no k n s h1 h2 h3]
  have hk1 : (k == 1) = false := beq_eq_false_iff_ne.2 h1
  have hk2 : (k == 2) = false := beq_eq_false_iff_ne.2 h2
  have hk3 : (k == 3) = false := beq_eq_false_iff_ne.2 h3
  clear h1 h2 h3
  go_enter Try.func85/-f-/, Try.ntmps85/-f-/
  go_wp2
  go_ret
  exact ⟨rfl, HBE.out⟩
set_option maxHeartbeats 4000000 in
theorem refall_any (A : Option Addr) (n c : Nat) (vs : List Val) (w : World) (hA : Vals w A vs) (hn : vs.length = n) (hf : ∀ x ∈ vs, FitV x) (hs : n ≤ 1000000) :
    Calls Try.prog 68/-f-/ #[.slice A n c] w fun e w' => e = .returned (.bool (rall vs)) ∧ Below w.heap.size w w' := by
  subst hn
  have HA := Lib.hid hA
  have HF := Lib.hid hf
  clear hA hf
  go_enter Try.func68/-f-/, Try.ntmps68/-f-/
  go_wp2
  go_loopw [3] (fun i wr => ∃ k : Nat, k ≤ vs.length ∧ i = .int .i64 k ∧ Below w.heap.size w wr ∧ Hid (rall (vs.take k) = true)) (fun i _ => vs.length - (intOf i).toNat)
  case atStart => exact ⟨0, Nat.zero_le _, rfl, Below.refl _ _, Lib.hid rfl⟩
  case round =>
    obtain ⟨k, hk, rfl, hbl, hall⟩ := hrel
    have hsz := hbl.size
    by_cases hlt : k < vs.length
    · rcases HA.out with h | ⟨b, off, rfl, hbw, hcell⟩
      · subst h; simp at hlt
      obtain ⟨x0, x1, x2⟩ := hcell k hlt
      replace x0 := (hbl.cell (p := ⟨b, off + k * 3, none⟩) hbw).trans x0
      replace x1 := (hbl.cell (p := ⟨b, off + k * 3 + 1, none⟩) hbw).trans x1
      replace x2 := (hbl.cell (p := ⟨b, off + k * 3 + 2, none⟩) hbw).trans x2
      have hfs := (HF.out _ (getD_mem vs k hlt)).s
      have HT := Lib.hid (rall_take vs k hlt)
      have HN := Lib.hid (fun h => rall_no vs k hlt h)
      clear hcell
      generalize vs.getD k default = x at *
      obtain ⟨xk, xn, xs⟩ := x
      simp only at x0 x1 x2 hfs
      by_cases hr : rightB xk xn xs = true
      · go_wp2_with (go_at_call 85/-f-/; refine (refright_any _ _ _ _ hfs).mono ?_; rintro e w1 ⟨rfl, hb1⟩)
        go_roundw
        case rel => exact ⟨k + 1, by omega, by go_num, hbl.trans (hb1.mono hsz), Lib.hid (by rw [HT.out, hall.out, hr]; rfl)⟩
        case measure => simp [intOf]; omega
      · have hr' : rightB xk xn xs = false := by simpa using hr
        clear hr
        go_wp2_with (go_at_call 85/-f-/; refine (refright_any _ _ _ _ hfs).mono ?_; rintro e w1 ⟨rfl, hb1⟩)
        go_ret
        exact ⟨ret_bool (HN.out hr').symm, hbl.trans (hb1.mono hsz)⟩
    · have hkl : k = vs.length := by omega
      subst hkl
      rw [List.take_length] at hall
      go_wp2
      go_ret
      exact ⟨ret_bool hall.out.symm, hbl⟩
/-- Whether there is more than is asked of. -/
def greatB (vs : List Val) : Bool := decide (30 < vs.length) || vs.any fun x => decide (300 < x.s.size)
theorem great_no {vs : List Val} (h : greatB vs = false) : vs.length ≤ 30 ∧ ∀ x ∈ vs, x.s.size ≤ 300 := by
  unfold greatB at h
  rw [Bool.or_eq_false_iff, decide_eq_false_iff_not, List.any_eq_false] at h
  exact ⟨by omega, fun x hx => by have := h.2 x hx; simp at this; omega⟩
set_option maxHeartbeats 4000000 in
theorem refgreat_any (A : Option Addr) (n c : Nat) (vs : List Val) (w : World) (hA : Vals w A vs) (hn : vs.length = n) (hf : ∀ x ∈ vs, FitV x) (hs : n ≤ 9223372036854775807) :
    Calls Try.prog 37/-f-/ #[.slice A n c] w fun e w' => e = .returned (.bool (greatB vs)) ∧ w = w' := by
  subst hn
  by_cases hbig : 30 < vs.length
  · have : greatB vs = true := by simp [greatB, hbig]
    rw [this]
    clear this
    go_enter Try.func37/-f-/, Try.ntmps37/-f-/
    go_wp2
    go_ret
    exact ⟨rfl, rfl⟩
  have HA := Lib.hid hA
  have HF := Lib.hid hf
  clear hA hf
  go_enter Try.func37/-f-/, Try.ntmps37/-f-/
  go_wp2
  go_loop [3] (fun i => ∃ k : Nat, k ≤ vs.length ∧ i = .int .i64 k ∧ Hid (∀ x ∈ vs.take k, x.s.size ≤ 300)) (fun i => vs.length - (intOf i).toNat)
  case atStart => exact ⟨0, Nat.zero_le _, rfl, Lib.hid (fun x hx => by simp at hx)⟩
  case round =>
    obtain ⟨k, hk, rfl, hall⟩ := hrel
    by_cases hlt : k < vs.length
    · rcases HA.out with h | ⟨b, off, rfl, hbw, hcell⟩
      · subst h; simp at hlt
      obtain ⟨x0, x1, x2⟩ := hcell k hlt
      have hfs := (HF.out _ (getD_mem vs k hlt)).s
      have HM := Lib.hid (getD_mem vs k hlt)
      have HT := Lib.hid (show vs.take (k + 1) = vs.take k ++ [vs.getD k default] from by rw [List.take_succ_eq_append_getElem hlt]; simp [List.getD, List.getElem?_eq_getElem hlt])
      clear hcell x0 x1
      generalize vs.getD k default = x at *
      by_cases hz : 300 < x.s.size
      · go_wp2
        go_ret
        exact ⟨ret_bool (by
          symm
          unfold greatB
          rw [Bool.or_eq_true, List.any_eq_true]
          exact .inr ⟨x, HM.out, by simpa using hz⟩), rfl⟩
      · go_wp2
        go_round
        case rel => exact ⟨k + 1, by omega, by go_num, Lib.hid (fun y hy => by
          rw [HT.out, List.mem_append, List.mem_singleton] at hy
          rcases hy with hy | rfl
          · exact hall.out y hy
          · omega)⟩
        case measure => simp [intOf]; omega
    · have hkl : k = vs.length := by omega
      subst hkl
      rw [List.take_length] at hall
      go_wp2
      go_ret
      exact ⟨ret_bool (by
        symm
        unfold greatB
        rw [Bool.or_eq_false_iff, decide_eq_false_iff_not, List.any_eq_false]
        exact ⟨by omega, fun x hx => by have := hall.out x hx; simp; omega⟩), rfl⟩
end Go.Proofs.Ytacangeamdcgdaa

/- An act on no disk. -/
import Derived.Test.YtlhfamdandpkgaaDso
namespace Go.Proofs.Ytlhfamdandpkgaa
open Go.ChangeShapes Go.WideShapes Go.ChangeAt Go.RowKit Go.Maps
theorem str_add (a : List UInt8) (x : ByteArray) : (⟨a.toArray⟩ : ByteArray) ++ x = ⟨(a ++ x.data.toList).toArray⟩ := by
  apply ByteArray.ext
  simp [ByteArray.data_append]
set_option maxRecDepth 100000 in
set_option maxHeartbeats 4000000 in
theorem join_any (A : Option Addr) (c : Nat) (ss : List ByteArray) (w : World) (hA : Strs w A ss) (hl : ss.length ≤ 10) (hz : ∀ s ∈ ss, s.size ≤ 300) :
    Calls Try.prog 17/-f-/ #[.slice A ss.length c] w fun e w' => e = .returned (.string ⟨(catL ss).toArray⟩) ∧ w' = w := by
  have HA := Lib.hid hA
  have HZ := Lib.hid hz
  clear hA hz
  go_enter Try.func17, Try.ntmps17
  go_wp2
  go_loop [3, 4] (fun v i => ∃ (t : ByteArray) (k : Nat), k ≤ ss.length ∧ v = .string t ∧ i = .int .i64 k ∧ t.size ≤ 300 * k ∧ Hid (t = ⟨(catL (ss.take k)).toArray⟩)) (fun _ i => ss.length - (intOf i).toNat)
  case atStart => exact ⟨_, 0, Nat.zero_le _, rfl, rfl, Nat.zero_le _, Lib.hid rfl⟩
  case round =>
    obtain ⟨t, k, hk, rfl, rfl, hts, hte⟩ := hrel
    by_cases hkl : k < ss.length
    · rcases HA.out with hx | ⟨b, off, rfl, hbw, hcell⟩
      · subst hx; simp at hkl
      have x0 := hcell k hkl
      have hki : (k : Int) < (ss.length : Int) := by omega
      have hxz := HZ.out (ss.getD k ⟨#[]⟩) (by simp [List.getD, hkl])
      have HCT := Lib.hid (catL_take ss k hkl)
      clear hcell
      generalize ss.getD k ⟨#[]⟩ = x at *
      have HTX := Lib.hid (show t ++ x = ⟨(catL (ss.take (k + 1))).toArray⟩ from by rw [hte.out, str_add, HCT.out])
      have hadd : ¬ 9223372036854775807 < t.size + x.size := by omega
      go_wp2
      go_round
      case rel => exact ⟨_, k + 1, hkl, rfl, by go_num, by rw [ByteArray.size_append]; omega, HTX⟩
      case measure => simp [intOf]; omega
    · have hke : k = ss.length := by omega
      subst hke
      rw [List.take_length] at hte
      go_wp2
      go_ret
      exact ⟨by rw [← hte.out]; rfl, rfl⟩
theorem Strs.src {w : World} {A : Option Addr} {ss : List ByteArray} (h : Strs w A ss) : Src w A ss.length 1 (ss.map Value.string) := by
  refine ⟨by simp, fun hA => ?_, fun ad hA j u hu => ?_, fun u hu => ?_⟩
  · rcases h with h | ⟨b, off, h1, _⟩
    · rw [h]; rfl
    · rw [hA] at h1; cases h1
  · rcases h with h | ⟨b, off, h1, _, h3⟩
    · subst h; simp at hu
    · rw [hA] at h1
      obtain rfl := Option.some.inj h1
      rw [List.getElem?_map] at hu
      cases hj : ss[j]? with
      | none => rw [hj] at hu; cases hu
      | some s =>
        rw [hj] at hu
        obtain rfl := Option.some.inj hu
        have hlt : j < ss.length := by
          rcases Nat.lt_or_ge j ss.length with h | h
          · exact h
          · rw [List.getElem?_eq_none h] at hj; cases hj
        have := h3 j hlt
        rw [List.getD, hj] at this
        rw [Addr.add_lit]; exact this
  · obtain ⟨s, _, rfl⟩ := List.mem_map.1 hu
    rfl
theorem own_new {base : Nat} (W : World) (N : Nat) (t : TypeId) (v : Value) (e : W.heap.size = N) (hb : base ≤ N) : (W.alloc (.cells #[v] t)).ownsRow base t 1 (.slice (some ⟨N, 0, none⟩) 1 1) 1 [v] := by
  subst e
  exact ⟨rfl, .inr ⟨W.heap.size, 1, #[v], rfl, hb, Blk.new W t #[v], Nat.le_refl _, by unfold maxLen; omega, rfl, rfl⟩⟩
set_option maxRecDepth 100000 in
theorem put_same (s t : ByteArray) (w : World) : Calls Try.prog 38/-f-/ #[.pointer none, .string s, .string t] w fun e w' => e = .returned (.int .i64 1) ∧ w' = w := by
  go_enter Try.func38, Try.ntmps38
  go_wp2
  go_ret
  exact ⟨rfl, rfl⟩
/-- What an act on no disk is answered. -/
def noneE (k : Int) : Int := if k = 6 ∨ k = 7 then 0 else 1
set_option maxRecDepth 100000 in
set_option maxHeartbeats 8000000 in
theorem do_nil (k N : Int) (nm tn : ByteArray) (A B : Option Addr) (c m e : Nat) (ss : List ByteArray) (w : World) (hA : Strs w A ss) (hl : ss.length ≤ 10) (hz : ∀ s ∈ ss, s.size ≤ 300) :
    Calls Try.prog 11/-f-/ #[.pointer none, .agg #[.int .i64 k, .string nm, .string tn, .slice A ss.length c, .int .i64 N, .slice B m e]] w fun e w' => e = .returned (.tuple #[.string ⟨#[]⟩, .int .i64 (noneE k)]) ∧ Below w.heap.size w w' := by
  obtain ⟨W, hW⟩ : ∃ W, W = w.alloc (.cells #[.int .i64 k, .string nm, .string tn, .slice A ss.length c, .int .i64 N, .slice B m e] 34) := ⟨_, rfl⟩
  have hb : Below w.heap.size w W := by rw [hW]; exact below_al w _
  have HAW := Lib.hid (hA.keep hb)
  have JN := Lib.hid (fun n => join_any A c ss (W.drewN n) (by have h2 := hA.keep hb; exact h2) hl hz)
  obtain ⟨i0, hi, hz0, hz1, hz2⟩ := info_parts infoS
  have HB := Lib.hid hb
  have HW := Lib.hid hW
  have hbk : Blk W w.heap.size 34 #[.int .i64 k, .string nm, .string tn, .slice A ss.length c, .int .i64 N, .slice B m e] := by rw [hW]; exact Blk.new _ _ _
  obtain ⟨c0, c1, c2, c3, c4, c5, _, hlt⟩ := blk6 hbk
  clear hA hb hW hbk
  by_cases k0 : k = 0
  · subst k0
    go_enter Try.func11, Try.ntmps11
    go_upto_region 1 with (fail)
    rw [← HW.out]
    go_wp2_with (go_at_call 20/-f-/; (with_reducible refine (append_nil _ _ _ _ _).mono ?_); rintro e w1 ⟨rfl, hb1⟩; have H1 := Lib.hid (HB.out.trans (hb1.mono HB.out.size)); clear hb1)
    go_ret2
    exact ⟨rfl, H1.out⟩
  by_cases k1 : k = 1
  · subst k1
    go_enter Try.func11, Try.ntmps11
    go_upto_region 1 with (fail)
    rw [← HW.out]
    go_wp2_with (first
      | (go_at_call 23/-f-/; (with_reducible refine (sync_nil _ _ _ _).mono ?_); rintro e w1 ⟨rfl, hb1⟩; have H1 := Lib.hid (HB2.out.trans (hb1.mono HB2.out.size)); clear hb1)
      | (at_builtin; refine wpList_append_src _ rfl _ _ 31 rfl W.heap.size 9 i0 (.string ⟨#[]⟩) 1 16 Try.underlying31 hi hz0 hz1 hz2 rfl (by decide) _ 1 [.string nm] rfl (own_new W _ _ _ rfl (Nat.le_refl _)) A ss.length c (ss.map Value.string) rfl (HAW.out.keep (below_al W _)).src (by unfold maxLen; omega) (by omega) (by simp) ?_; intro v' w2 hown' hgr _; obtain ⟨A2, c2, rfl⟩ := own_slice hown'; have HB2 := Lib.hid (HB.out.trans (((below_al W _).grown hgr (by simp) (fun j hj => by cases hj; exact Nat.le_refl _)).mono HB.out.size)); clear hown' hgr))
    go_ret2
    exact ⟨rfl, H1.out⟩
  by_cases k2 : k = 2
  · subst k2
    go_enter Try.func11, Try.ntmps11
    go_upto_region 1 with (fail)
    rw [← HW.out]
    go_wp2_with (go_at_call 27/-f-/; (with_reducible refine (rename_nil _ _ _).mono ?_); rintro e w1 ⟨rfl, hb1⟩; have H1 := Lib.hid (HB.out.trans (hb1.mono HB.out.size)); clear hb1)
    go_ret2
    exact ⟨rfl, H1.out⟩
  by_cases k3 : k = 3
  · subst k3
    go_enter Try.func11, Try.ntmps11
    go_upto_region 1 with (fail)
    rw [← HW.out]
    go_wp2_with (go_at_call 35/-f-/; (with_reducible refine (delete_nil _ _).mono ?_); rintro e w1 ⟨rfl, hb1⟩; have H1 := Lib.hid (HB.out.trans (hb1.mono HB.out.size)); clear hb1)
    go_ret2
    exact ⟨rfl, H1.out⟩
  by_cases k4 : k = 4
  · subst k4
    go_enter Try.func11, Try.ntmps11
    go_upto_region 1 with (fail)
    rw [← HW.out]
    go_wp2_with (go_at_call 36/-f-/; (with_reducible refine (cut_nil _ _ _).mono ?_); rintro e w1 ⟨rfl, hb1⟩; have H1 := Lib.hid (HB.out.trans (hb1.mono HB.out.size)); clear hb1)
    go_ret2
    exact ⟨rfl, H1.out⟩
  by_cases k5 : k = 5
  · subst k5
    go_enter Try.func11, Try.ntmps11
    go_upto_region 1 with (fail)
    rw [← HW.out]
    go_wp2_with (go_at_call 25/-f-/; (with_reducible refine (read_nil _ _).mono ?_); rintro e w1 ⟨rfl, hb1⟩; have H1 := Lib.hid (HB.out.trans (hb1.mono HB.out.size)); clear hb1)
    go_ret2
    exact ⟨rfl, H1.out⟩
  by_cases k6 : k = 6
  · subst k6
    go_enter Try.func11, Try.ntmps11
    go_upto_region 1 with (fail)
    rw [← HW.out]
    go_wp2_with (go_at_call 37/-f-/; (with_reducible refine (arm_nil _ _).mono ?_); rintro e w1 ⟨rfl, hb1⟩; have H1 := Lib.hid (HB.out.trans (hb1.mono HB.out.size)); clear hb1)
    go_ret2
    exact ⟨rfl, H1.out⟩
  by_cases k7 : k = 7
  · subst k7
    go_enter Try.func11, Try.ntmps11
    go_upto_region 1 with (fail)
    rw [← HW.out]
    go_wp2_with (go_at_call 24/-f-/; (with_reducible refine (crash_nil _ _ _ _).mono ?_); rintro e w1 ⟨rfl, hb1⟩; have H1 := Lib.hid (HB.out.trans (hb1.mono HB.out.size)); clear hb1)
    go_ret2
    exact ⟨rfl, H1.out⟩
  have q0 : (k == 0) = false := beq_eq_false_iff_ne.2 k0
  have q1 : (k == 1) = false := beq_eq_false_iff_ne.2 k1
  have q2 : (k == 2) = false := beq_eq_false_iff_ne.2 k2
  have q3 : (k == 3) = false := beq_eq_false_iff_ne.2 k3
  have q4 : (k == 4) = false := beq_eq_false_iff_ne.2 k4
  have q5 : (k == 5) = false := beq_eq_false_iff_ne.2 k5
  have q6 : (k == 6) = false := beq_eq_false_iff_ne.2 k6
  have q7 : (k == 7) = false := beq_eq_false_iff_ne.2 k7
  have HE := Lib.hid (show noneE k = 1 from if_neg (by rintro (h | h); exact k6 h; exact k7 h))
  clear k0 k1 k2 k3 k4 k5 k6 k7
  go_enter Try.func11, Try.ntmps11
  go_upto_region 1 with (fail)
  rw [← HW.out]
  go_upto_region 2 with (fail)
  go_quiet (first
    | (go_at_call 17/-f-/; exact Calls.quiet_of_same (JN.out _))
    | (go_at_call 38/-f-/; exact Calls.quiet_of_same (put_same _ _ _)))
  go_wp2
  go_ret2
  exact ⟨ret_si rfl HE.out.symm, ⟨HB.out.os, HB.out.tape, HB.out.output, HB.out.size, HB.out.block⟩⟩
end Go.Proofs.Ytlhfamdandpkgaa

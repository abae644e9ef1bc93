/- Contracts of package codec: of no reader; of a reader, or of none. -/
import Derived.Test.YtelfppjgdhelbaaPrw
namespace Go.Proofs.Ytelfppjgdhelbaa
open Go.ChangeShapes Go.WideShapes Go.ChangeAt Go.RowKit
set_option maxRecDepth 100000 in
theorem take_nil (n : Nat) (w : World) (hn : n ≤ 9223372036854775807) : Calls Try.prog 54/-f-/ #[.pointer none, .int .i64 n] w fun e w' => e = .returned (.slice none 0 0) ∧ w = w' := by
  by_cases h0 : n = 0
  · subst h0
    go_enter Try.func54, Try.ntmps54
    go_wp2_with (first | (go_at_call 52/-f-/; (with_reducible refine (rlen_nil _).mono ?_); rintro e w1 ⟨rfl, rfl⟩) | (go_at_call 51/-f-/; (with_reducible refine (rfail_nil _).mono ?_); rintro e w1 ⟨rfl, rfl⟩))
    go_ret
    exact ⟨rfl, rfl⟩
  · have hp : 0 < n := by omega
    go_enter Try.func54, Try.ntmps54
    go_wp2_with (first | (go_at_call 52/-f-/; (with_reducible refine (rlen_nil _).mono ?_); rintro e w1 ⟨rfl, rfl⟩) | (go_at_call 51/-f-/; (with_reducible refine (rfail_nil _).mono ?_); rintro e w1 ⟨rfl, rfl⟩))
    go_ret
    exact ⟨rfl, rfl⟩
set_option maxRecDepth 100000 in
theorem one_nil (w : World) : Calls Try.prog 58/-f-/ #[.pointer none] w fun e w' => e = .returned (.int .u8 0) ∧ w = w' := by
  have T := Lib.hid (take_nil 1 w (by omega))
  go_enter Try.func58, Try.ntmps58
  go_wp2_with (go_at_call 54/-f-/; refine T.out.mono ?_; rintro e w1 ⟨rfl, rfl⟩)
  go_ret
  exact ⟨rfl, rfl⟩
set_option maxRecDepth 100000 in
set_option maxHeartbeats 2000000 in
theorem rnatural_nil (w : World) : Calls Try.prog 53/-f-/ #[.pointer none] w fun e w' => e = .returned (.int .u64 0) ∧ w = w' := by
  have T := Lib.hid (take_nil 0 w (by omega))
  go_enter Try.func53, Try.ntmps53
  go_wp2_with (first | (go_at_call 58/-f-/; (with_reducible refine (one_nil _).mono ?_); rintro e w1 ⟨rfl, rfl⟩) | (go_at_call 54/-f-/; refine T.out.mono ?_; rintro e w1 ⟨rfl, rfl⟩))
  go_loop [5, 7, 31] (fun d _ i => i = .int .i64 0 ∧ d = .int .u64 0) (fun _ _ _ => 0)
  case atStart => exact ⟨rfl, rfl⟩
  case round =>
    obtain ⟨rfl, rfl⟩ := hrel
    go_wp2
    go_ret
    exact ⟨rfl, rfl⟩
set_option maxRecDepth 100000 in
theorem rsize_nil (most : Int) (w : World) (hm : -9223372036854775808 ≤ most ∧ most ≤ 9223372036854775807) : Calls Try.prog 35/-f-/ #[.pointer none, .int .i64 most] w fun e w' => e = .returned (.int .i64 0) ∧ w = w' := by
  by_cases h0 : most < 0
  all_goals
    go_enter Try.func35, Try.ntmps35
    go_wp2_with (first | (go_at_call 53/-f-/; (with_reducible refine (rnatural_nil _).mono ?_); rintro e w1 ⟨rfl, rfl⟩) | (go_at_call 51/-f-/; (with_reducible refine (rfail_nil _).mono ?_); rintro e w1 ⟨rfl, rfl⟩))
    go_ret
    exact ⟨rfl, rfl⟩
set_option maxRecDepth 100000 in
theorem rsigned_nil (w : World) : Calls Try.prog 29/-f-/ #[.pointer none] w fun e w' => e = .returned (.int .i64 0) ∧ w = w' := by
  go_enter Try.func29, Try.ntmps29
  go_wp2_with (first | (go_at_call 53/-f-/; (with_reducible refine (rnatural_nil _).mono ?_); rintro e w1 ⟨rfl, rfl⟩))
  go_ret
  exact ⟨ret_int (by decide +kernel), rfl⟩
set_option maxRecDepth 100000 in
theorem rtext_nil (most : Int) (w : World) (hm : -9223372036854775808 ≤ most ∧ most ≤ 9223372036854775807) : Calls Try.prog 30/-f-/ #[.pointer none, .int .i64 most] w fun e w' => e = .returned (.string ⟨#[]⟩) ∧ w = w' := by
  have T := Lib.hid (take_nil 0 w (by omega))
  have CV := (Bs.nil w).conv
  go_enter Try.func30, Try.ntmps30
  go_wp2_with (first | (go_at_call 35/-f-/; (with_reducible refine (rsize_nil most _ hm).mono ?_); rintro e w1 ⟨rfl, rfl⟩) | (go_at_call 54/-f-/; refine T.out.mono ?_; rintro e w1 ⟨rfl, rfl⟩))
  go_ret
  exact ⟨rfl, rfl⟩
set_option maxRecDepth 100000 in
set_option maxHeartbeats 4000000 in
theorem rvalue_nil (w : World) : Calls Try.prog 46/-f-/ #[.pointer none] w fun e w' => e = .returned (.agg #[.int .i64 0, .int .i64 0, .string ⟨#[]⟩]) ∧ Below w.heap.size w w' := by
  have HB2 := Lib.hid (((Below.refl w.heap.size w).alloc (Nat.le_refl _) (.cells #[.int .i64 0, .int .i64 0, .string ⟨#[]⟩] 35/-t-/)).alloc (by simp) (.cells #[.int .i64 0, .int .i64 0, .string ⟨#[]⟩] 35/-t-/))
  have BR := Lib.hid ((Blk.new w 35/-t-/ #[.int .i64 0, .int .i64 0, .string ⟨#[]⟩]).alloc (.cells #[.int .i64 0, .int .i64 0, .string ⟨#[]⟩] 35/-t-/))
  have HVX := Lib.hid (new_vals ((w.alloc (.cells #[.int .i64 0, .int .i64 0, .string ⟨#[]⟩] 35/-t-/)).alloc (.cells #[.int .i64 0, .int .i64 0, .string ⟨#[]⟩] 35/-t-/)) (w.heap.size + 1 + 1) 35/-t-/ ⟨0, 0, ⟨#[]⟩⟩ (by simp))
  have HVY := Lib.hid (new_vals ((w.alloc (.cells #[.int .i64 0, .int .i64 0, .string ⟨#[]⟩] 35/-t-/)).alloc (.cells #[.int .i64 0, .int .i64 0, .string ⟨#[]⟩] 35/-t-/)) (w.heap.size + 2) 35/-t-/ ⟨0, 0, ⟨#[]⟩⟩ (by simp))
  have hR : rall [(⟨0, 0, ⟨#[]⟩⟩ : Val)] = false := by decide
  have RA' := fun W A (hW : Vals W A [(⟨0, 0, ⟨#[]⟩⟩ : Val)]) => rightall_any A 1 1 [(⟨0, 0, ⟨#[]⟩⟩ : Val)] W hW rfl (fun x hx => by simp at hx; subst hx; exact ⟨by simp, by simp, by show (ByteArray.mk #[]).size ≤ 9223372036854775807; decide⟩) (by omega)
  rw [hR] at RA'
  have RA := Lib.hid RA'
  clear RA' hR
  go_enter Try.func46, Try.ntmps46
  go_wp2_with (first | (go_at_call 58/-f-/; (with_reducible refine (one_nil _).mono ?_); rintro e w1 ⟨rfl, rfl⟩) | (go_at_call 34/-f-/; (with_reducible refine (rgood_nil _).mono ?_); rintro e w1 ⟨rfl, rfl⟩) | (go_at_call 51/-f-/; (with_reducible refine (rfail_nil _).mono ?_); rintro e w1 ⟨rfl, rfl⟩) | (go_at_call 41/-f-/; (first | (with_reducible refine (RA.out _ _ HVX.out).mono ?_) | (with_reducible refine (RA.out _ _ HVY.out).mono ?_)); rintro e w3 ⟨rfl, hb3⟩; have HB3 := Lib.hid ((HB2.out.alloc (by simp only [World.size_alloc]; omega) _).trans (hb3.mono (by simp only [World.size_alloc]; omega))); have BR3 := Lib.hid ((BR.out.alloc _).below hb3 (BR.out.alloc _).lt); have c0 := BR3.out.cell 0; have c1 := BR3.out.cell 1; have c2 := BR3.out.cell 2; have f0 := BR3.out.frozen 0; have f1 := BR3.out.frozen 1; have f2 := BR3.out.frozen 2; have hlt2 := BR3.out.lt; simp only [List.getElem?_toArray, List.getElem?_cons_zero, List.getElem?_cons_succ] at c0 c1 c2; clear hb3))
  exact bodyPost_ret (v := .agg #[.int .i64 0, .int .i64 0, .string ⟨#[]⟩]) (by simp [results, Try.results46, go_sem, c0, c1, c2, f0, f1, f2, hlt2]) rfl ⟨rfl, ((HB3.out.setCell (Nat.le_refl _) _).setCell (Nat.le_refl _) _).setCell (Nat.le_refl _) _⟩
set_option maxRecDepth 100000 in
set_option maxHeartbeats 2000000 in
theorem rrow_nil (most : Int) (w : World) (hm : -9223372036854775808 ≤ most ∧ most ≤ 9223372036854775807) : Calls Try.prog 36/-f-/ #[.pointer none, .int .i64 most] w fun e w' => e = .returned (.slice none 0 0) ∧ w = w' := by
  go_enter Try.func36, Try.ntmps36
  go_wp2_with (first | (go_at_call 35/-f-/; (with_reducible refine (rsize_nil most _ hm).mono ?_); rintro e w1 ⟨rfl, rfl⟩))
  go_loop [5, 6] (fun lv nv => nv = .int .i64 0 ∧ lv = .slice none 0 0) (fun _ _ => 0)
  case atStart => exact ⟨rfl, rfl⟩
  case round =>
    obtain ⟨rfl, rfl⟩ := hrel
    go_wp2_with (first | (go_at_call 34/-f-/; (with_reducible refine (rgood_nil _).mono ?_); rintro e w1 ⟨rfl, rfl⟩))
    go_ret
    exact ⟨rfl, rfl⟩
set_option maxRecDepth 100000 in
set_option maxHeartbeats 2000000 in
theorem rrows_nil (most cols : Int) (w : World) (hm : -9223372036854775808 ≤ most ∧ most ≤ 9223372036854775807) : Calls Try.prog 32/-f-/ #[.pointer none, .int .i64 most, .int .i64 cols] w fun e w' => e = .returned (.slice none 0 0) ∧ w = w' := by
  go_enter Try.func32, Try.ntmps32
  go_wp2_with (first | (go_at_call 35/-f-/; (with_reducible refine (rsize_nil most _ hm).mono ?_); rintro e w1 ⟨rfl, rfl⟩))
  go_loop [7, 8] (fun lv nv => nv = .int .i64 0 ∧ lv = .slice none 0 0) (fun _ _ => 0)
  case atStart => exact ⟨rfl, rfl⟩
  case round =>
    obtain ⟨rfl, rfl⟩ := hrel
    go_wp2_with (first | (go_at_call 34/-f-/; (with_reducible refine (rgood_nil _).mono ?_); rintro e w1 ⟨rfl, rfl⟩))
    go_ret
    exact ⟨rfl, rfl⟩
/-- A reader by its pointer: none is one that is bad. -/
def Rq (w : World) (A : Option Addr) (st : Option (List UInt8)) : Prop := (A = none ∧ st = none) ∨ ∃ g, A = some ⟨g, 0, none⟩ ∧ Rd w g st
/-- The block at which a pointer points. -/
def Sq (A : Option Addr) (k : Nat) : Prop := A = some ⟨k, 0, none⟩
theorem Sq.of {w w' : World} {g : Nat} (h : Off (· = g) w w') : Off (Sq (some ⟨g, 0, none⟩)) w w' := h.more (fun k _ e => by unfold Sq; rw [e])
theorem Rq.below {w w' : World} {A : Option Addr} {st : Option (List UInt8)} (h : Rq w A st) (hb : Below w.heap.size w w') : Rq w' A st := by
  rcases h with h | ⟨g, h1, h2⟩
  · exact .inl h
  · exact .inr ⟨g, h1, h2.more hb⟩
theorem rsize_q (A : Option Addr) (most : Int) (st : Option (List UInt8)) (w : World) (h : Rq w A st) (hm : -9223372036854775808 ≤ most ∧ most ≤ 9223372036854775807) (hl : (st.getD []).length ≤ 1000000000) :
    Calls Try.prog 35/-f-/ #[.pointer A, .int .i64 most] w fun e w' => e = .returned (.int .i64 (stepR 0 (sizeR most) st).1) ∧ Rq w' A (stepR 0 (sizeR most) st).2 ∧ Off (Sq A) w w' := by
  rcases h with ⟨rfl, rfl⟩ | ⟨g, rfl, h2⟩
  · refine (rsize_nil most w hm).mono ?_
    rintro e w1 ⟨rfl, hb⟩
    subst hb; exact ⟨rfl, .inl ⟨rfl, rfl⟩, Off.refl _ _⟩
  · refine (rsize_any g most st w h2 hm hl).mono ?_
    rintro e w1 ⟨rfl, h3, h4⟩
    exact ⟨rfl, .inr ⟨g, rfl, h3⟩, Sq.of h4⟩
theorem rsigned_q (A : Option Addr) (st : Option (List UInt8)) (w : World) (h : Rq w A st) (hl : (st.getD []).length ≤ 1000000000) :
    Calls Try.prog 29/-f-/ #[.pointer A] w fun e w' => e = .returned (.int .i64 (stepR 0 signedR st).1) ∧ Rq w' A (stepR 0 signedR st).2 ∧ Off (Sq A) w w' := by
  rcases h with ⟨rfl, rfl⟩ | ⟨g, rfl, h2⟩
  · refine (rsigned_nil w).mono ?_
    rintro e w1 ⟨rfl, hb⟩
    subst hb; exact ⟨rfl, .inl ⟨rfl, rfl⟩, Off.refl _ _⟩
  · refine (rsigned_any g st w h2 hl).mono ?_
    rintro e w1 ⟨rfl, h3, h4⟩
    exact ⟨rfl, .inr ⟨g, rfl, h3⟩, Sq.of h4⟩
theorem rtext_q (A : Option Addr) (most : Int) (st : Option (List UInt8)) (w : World) (h : Rq w A st) (hm : -9223372036854775808 ≤ most ∧ most ≤ 9223372036854775807) (hl : (st.getD []).length ≤ 1000000000) :
    Calls Try.prog 30/-f-/ #[.pointer A, .int .i64 most] w fun e w' => e = .returned (.string ⟨(stepR [] (textR most) st).1.toArray⟩) ∧ Rq w' A (stepR [] (textR most) st).2 ∧ Off (Sq A) w w' := by
  rcases h with ⟨rfl, rfl⟩ | ⟨g, rfl, h2⟩
  · refine (rtext_nil most w hm).mono ?_
    rintro e w1 ⟨rfl, hb⟩
    subst hb; exact ⟨rfl, .inl ⟨rfl, rfl⟩, Off.refl _ _⟩
  · refine (rtext_any g most st w h2 hm hl).mono ?_
    rintro e w1 ⟨rfl, h3, h4⟩
    exact ⟨rfl, .inr ⟨g, rfl, h3⟩, Sq.of h4⟩
theorem rvalue_q (A : Option Addr) (st : Option (List UInt8)) (w : World) (h : Rq w A st) (hl : (st.getD []).length ≤ 1000000000) :
    Calls Try.prog 46/-f-/ #[.pointer A] w fun e w' => e = .returned (.agg #[.int .i64 (stepR zeroV valR st).1.k, .int .i64 (stepR zeroV valR st).1.n, .string (stepR zeroV valR st).1.s]) ∧ Rq w' A (stepR zeroV valR st).2 ∧ Off (Sq A) w w' := by
  rcases h with ⟨rfl, rfl⟩ | ⟨g, rfl, h2⟩
  · refine (rvalue_nil w).mono ?_
    rintro e w1 ⟨rfl, hb⟩
    exact ⟨rfl, .inl ⟨rfl, rfl⟩, Off.of hb⟩
  · refine (rvalue_any g st w h2 hl).mono ?_
    rintro e w1 ⟨rfl, h3, h4⟩
    exact ⟨rfl, .inr ⟨g, rfl, h3⟩, Sq.of h4⟩
theorem rrow_q (A : Option Addr) (most : Int) (st : Option (List UInt8)) (w : World) (h : Rq w A st) (hm : -9223372036854775808 ≤ most ∧ most ≤ 9223372036854775807) (hl : (st.getD []).length ≤ 100000000) :
    Calls Try.prog 36/-f-/ #[.pointer A, .int .i64 most] w fun e w' => (∃ u, e = .returned u ∧ RowV w' w.heap.size u (stepR [] (rowR most) st).1) ∧ Rq w' A (stepR [] (rowR most) st).2 ∧ Off (Sq A) w w' := by
  rcases h with ⟨rfl, rfl⟩ | ⟨g, rfl, h2⟩
  · refine (rrow_nil most w hm).mono ?_
    rintro e w1 ⟨rfl, hb⟩
    subst hb
    exact ⟨⟨_, rfl, World.ownsRow_nil _ _ _ _⟩, .inl ⟨rfl, rfl⟩, Off.refl _ _⟩
  · refine (rrow_any g most st w h2 hm hl).mono ?_
    rintro e w1 ⟨h5, h3, h4⟩
    exact ⟨h5, .inr ⟨g, rfl, h3⟩, Sq.of h4⟩
theorem rrows_q (A : Option Addr) (most cols : Int) (st : Option (List UInt8)) (w : World) (h : Rq w A st) (hm : -9223372036854775808 ≤ most ∧ most ≤ 9223372036854775807) (hc : -9223372036854775808 ≤ cols ∧ cols ≤ 9223372036854775807) (hl : (st.getD []).length ≤ 100000000) :
    Calls Try.prog 32/-f-/ #[.pointer A, .int .i64 most, .int .i64 cols] w fun e w' => (∃ u, e = .returned u ∧ RowR w' w.heap.size u (stepR [] (rowsR most cols) st).1) ∧ Rq w' A (stepR [] (rowsR most cols) st).2 ∧ Off (Sq A) w w' := by
  rcases h with ⟨rfl, rfl⟩ | ⟨g, rfl, h2⟩
  · refine (rrows_nil most cols w hm).mono ?_
    rintro e w1 ⟨rfl, hb⟩
    subst hb
    exact ⟨⟨_, rfl, RowR.nil _ _⟩, .inl ⟨rfl, rfl⟩, Off.refl _ _⟩
  · refine (rrows_any g most cols st w h2 hm hc hl).mono ?_
    rintro e w1 ⟨h5, h3, h4⟩
    exact ⟨h5, .inr ⟨g, rfl, h3⟩, Sq.of h4⟩
theorem rgood_q (A : Option Addr) (st : Option (List UInt8)) (w : World) (h : Rq w A st) :
    Calls Try.prog 34/-f-/ #[.pointer A] w fun e w' => e = .returned (.bool st.isSome) ∧ w' = w := by
  rcases h with ⟨rfl, rfl⟩ | ⟨g, rfl, h2⟩
  · exact (rgood_nil w).mono fun e w1 ⟨h, k⟩ => ⟨h, k.symm⟩
  · exact (rgood_any g st w h2).mono fun e w1 ⟨h, k⟩ => ⟨h, k.symm⟩
theorem rlen_q (A : Option Addr) (st : Option (List UInt8)) (w : World) (h : Rq w A st) :
    Calls Try.prog 52/-f-/ #[.pointer A] w fun e w' => e = .returned (.int .i64 (st.getD []).length) ∧ w' = w := by
  rcases h with ⟨rfl, rfl⟩ | ⟨g, rfl, h2⟩
  · exact (rlen_nil w).mono fun e w1 ⟨h, k⟩ => ⟨h, k.symm⟩
  · exact (rlen_any g st w h2).mono fun e w1 ⟨h, k⟩ => ⟨h, k.symm⟩
theorem rstring_q (A : Option Addr) (st : Option (List UInt8)) (w : World) (h : Rq w A st) :
    Calls Try.prog 33/-f-/ #[.pointer A] w fun e w' => e = .returned (.string ⟨(st.getD []).toArray⟩) ∧ w' = w := by
  rcases h with ⟨rfl, rfl⟩ | ⟨g, rfl, h2⟩
  · exact (rstring_nil w).mono fun e w1 ⟨h, k⟩ => ⟨h, k.symm⟩
  · exact (rstring_any g st w h2).mono fun e w1 ⟨h, k⟩ => ⟨h, k.symm⟩
theorem rfail_q (A : Option Addr) (st : Option (List UInt8)) (w : World) (h : Rq w A st) :
    Calls Try.prog 51/-f-/ #[.pointer A] w fun e w' => e = .returned (.tuple #[]) ∧ Rq w' A none ∧ Off (Sq A) w w' := by
  rcases h with ⟨rfl, rfl⟩ | ⟨g, rfl, h2⟩
  · exact (rfail_nil w).mono fun e w1 ⟨h, k⟩ => ⟨h, .inl ⟨rfl, rfl⟩, by subst k; exact Off.refl _ _⟩
  · exact (rfail_any g st w h2).mono fun e w1 ⟨h, k, o⟩ => ⟨h, .inr ⟨g, rfl, k⟩, Sq.of o⟩
end Go.Proofs.Ytelfppjgdhelbaa

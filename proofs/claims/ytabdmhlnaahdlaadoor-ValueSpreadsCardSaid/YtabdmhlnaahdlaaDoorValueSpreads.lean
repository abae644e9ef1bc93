/- ValueSpreads: any right value's place, of any many. Condition: the tables of Go's library that the row lists hold what the library's text lays in them. -/
import Derived.Test.YtabdmhlnaahdlaaDoorOpv
import Derived.Test.YtabdmhlnaahdlaaDoorSpr
import Derived.Deep.RegionHeld3
namespace Go.Proofs.YtabdmhlnaahdlaaDoor.ValueSpreads
open Go.ChangeShapes Go.WideShapes Go.ChangeAt Go.RowKit
set_option linter.unusedVariables false
set_option maxRecDepth 100000 in
set_option maxHeartbeats 8000000 in
theorem walk (x : Val) (n : Int) (w : World) (hT : PT w) (hf : FitV x) (hn1 : -9223372036854775808 ≤ n) (hn2 : n ≤ 9223372036854775807) :
    Calls Tryd.prog 8/-f-/ #[.agg #[.int .i64 x.k, .int .i64 x.n, .string x.s], .int .i64 n] w fun e w' => e = .returned (.bool true) ∧ Below w.heap.size w w' := by
  have hbx : Below w.heap.size w (w.alloc (.cells #[.int .i64 x.k, .int .i64 x.n, .string x.s] 35)) := (Below.refl _ _).alloc (Nat.le_refl _) _
  have HBX := Lib.hid hbx
  have HT := Lib.hid (hT.below hbx (Nat.le_refl _))
  have hfs := hf.s
  clear hT hbx
  by_cases hbig : 300 < x.s.size
  · go_enter Tryd.func8/-f-/, Tryd.ntmps8/-f-/
    go_wp2_with (go_at_call 17/-f-/; (with_reducible refine (awake2_any _ HT.out).mono ?_); rintro e w1 ⟨rfl, hb1⟩)
    go_ret
    exact ⟨rfl, HBX.out.trans (hb1.mono HBX.out.size)⟩
  by_cases hr : rightB x.k x.n x.s = true
  · by_cases hbn : 1000000 < n
    · go_enter Tryd.func8/-f-/, Tryd.ntmps8/-f-/
      go_wp2_with (first | (go_at_call 32/-f-/; (with_reducible refine (refright_any _ _ _ _ hfs).mono ?_); rintro e w1 ⟨rfl, hb1⟩; have HT1 := Lib.hid (HT.out.below hb1 (Nat.le_refl _)); have HB1 := Lib.hid hb1; clear hb1) | (go_at_call 17/-f-/; (with_reducible refine (awake2_any _ HT1.out).mono ?_); rintro e w2 ⟨rfl, hb2⟩))
      go_ret
      exact ⟨rfl, (HBX.out.trans (HB1.out.mono HBX.out.size)).trans (hb2.mono (Nat.le_trans HBX.out.size HB1.out.size))⟩
    by_cases hz : n < 1
    · have SZ := Lib.hid (fun W => spread_zero x n W hz)
      go_enter Tryd.func8/-f-/, Tryd.ntmps8/-f-/
      go_wp2_with (first
        | (go_at_call 32/-f-/; (with_reducible refine (refright_any _ _ _ _ hfs).mono ?_); rintro e w1 ⟨rfl, hb1⟩; have hq := hb1.cell (p := ⟨w.heap.size, 0, none⟩) (by simp); have hq1 := hb1.cell (p := ⟨w.heap.size, 1, none⟩) (by simp); have hq2 := hb1.cell (p := ⟨w.heap.size, 2, none⟩) (by simp); have HT1 := Lib.hid (HT.out.below hb1 (Nat.le_refl _)); have HB1 := Lib.hid hb1; have hz1 := hb1.size; simp at hz1; simp at hq hq1 hq2; clear hb1)
        | (go_at_call 38/-f-/; (with_reducible refine (SZ.out _).mono ?_); rintro e w2 ⟨rfl, hb2⟩; have HT2 := Lib.hid (HT1.out.below hb2 (Nat.le_refl _)); have HB2 := Lib.hid hb2; clear hb2)
        | (go_at_call 17/-f-/; (with_reducible refine (awake2_any _ HT2.out).mono ?_); rintro e w3 ⟨rfl, hb3⟩))
      go_ret
      have hB1 := HBX.out.trans (HB1.out.mono HBX.out.size)
      have hB2 := hB1.trans (HB2.out.mono hB1.size)
      exact ⟨rfl, hB2.trans (hb3.mono hB2.size)⟩
    · obtain ⟨m, rfl⟩ : ∃ m : Nat, n = m := ⟨n.toNat, by omega⟩
      have hs : x.k = 2 ∨ x.s = ⟨#[]⟩ := by
        unfold rightB at hr
        simp only [Bool.or_eq_true, Bool.and_eq_true, decide_eq_true_eq, beq_iff_eq] at hr
        rcases hr with (h | h) | h
        · exact .inr h.2
        · exact .inl h.1.1
        · exact .inr h.2
      have S1 := Lib.hid (fun W => spread_any x m W hf hr (by omega) (by omega))
      have S2 := Lib.hid (fun W => refspread_any x m W hf hs (by omega) (by omega) (by omega))
      generalize spreadV x m = r at *
      have hrr : (r == r) = true := beq_self_eq_true r
      clear hs
      go_enter Tryd.func8/-f-/, Tryd.ntmps8/-f-/
      go_upto_region 5 with (go_at_call 32/-f-/; (with_reducible refine (refright_any _ _ _ _ hfs).mono ?_); rintro e w1 ⟨rfl, hb1⟩; have hq := hb1.cell (p := ⟨w.heap.size, 0, none⟩) (by simp); have hq1 := hb1.cell (p := ⟨w.heap.size, 1, none⟩) (by simp); have hq2 := hb1.cell (p := ⟨w.heap.size, 2, none⟩) (by simp); have HT1 := Lib.hid (HT.out.below hb1 (Nat.le_refl _)); have HB1 := Lib.hid hb1; have hz1 := hb1.size; simp at hz1; simp at hq hq1 hq2; clear hb1)
      have hlt1 : w.heap.size < w1.heap.size := by omega
      go_region_held3 (fun W => W.cell? ⟨w.heap.size, 0, none⟩ = some (.int .i64 x.k) ∧ W.cell? ⟨w.heap.size, 1, none⟩ = some (.int .i64 x.n) ∧ W.cell? ⟨w.heap.size, 2, none⟩ = some (.string x.s))
        (first | exact ⟨hq, hq1, hq2⟩ | exact ⟨d0, d1, d2⟩ | exact ⟨e0, e1, e2⟩ | exact ⟨f0, f1, f2⟩)
        (first
          | (go_at_call 38/-f-/; (with_reducible refine (S1.out _).mono ?_); rintro e w2 ⟨rfl, hbe⟩; have HB2 := Lib.hid (show Below w1.heap.size w1 w2 from (Below.refl _ _).drew.trans (hbe.mono (Nat.le_refl _))); have d0 := (HB2.out.cell (p := ⟨w.heap.size, 0, none⟩) hlt1).trans hq; have d1 := (HB2.out.cell (p := ⟨w.heap.size, 1, none⟩) hlt1).trans hq1; have d2 := (HB2.out.cell (p := ⟨w.heap.size, 2, none⟩) hlt1).trans hq2; have hlt2 : w.heap.size < w2.heap.size := Nat.lt_of_lt_of_le hlt1 HB2.out.size; have HT2 := Lib.hid (HT1.out.below HB2.out (Nat.le_refl _)); clear hbe)
          | (go_at_call 39/-f-/; (with_reducible refine (S2.out _).mono ?_); rintro e w3 ⟨rfl, hbe⟩; have HB3 := Lib.hid hbe; have e0 := (hbe.cell (p := ⟨w.heap.size, 0, none⟩) hlt2).trans d0; have e1 := (hbe.cell (p := ⟨w.heap.size, 1, none⟩) hlt2).trans d1; have e2 := (hbe.cell (p := ⟨w.heap.size, 2, none⟩) hlt2).trans d2; have hlt3 : w.heap.size < w3.heap.size := Nat.lt_of_lt_of_le hlt2 hbe.size; have HT3 := Lib.hid (HT2.out.below hbe (Nat.le_refl _)); clear hbe)
          | (go_at_call 17/-f-/; (with_reducible refine (awake2_any _ HT3.out).mono ?_); rintro e w4 ⟨rfl, hbe⟩; have HB4 := Lib.hid hbe; have f0 := (hbe.cell (p := ⟨w.heap.size, 0, none⟩) hlt3).trans e0; have f1 := (hbe.cell (p := ⟨w.heap.size, 1, none⟩) hlt3).trans e1; have f2 := (hbe.cell (p := ⟨w.heap.size, 2, none⟩) hlt3).trans e2; clear hbe))
      go_wp2
      go_ret
      have hB1 := HBX.out.trans (HB1.out.mono HBX.out.size)
      have hB2 := hB1.trans (HB2.out.mono hB1.size)
      have hB3 := hB2.trans (HB3.out.mono hB2.size)
      exact ⟨rfl, hB3.trans (HB4.out.mono hB3.size)⟩
  · have hr' : rightB x.k x.n x.s = false := by simpa using hr
    clear hr
    go_enter Tryd.func8/-f-/, Tryd.ntmps8/-f-/
    go_wp2_with (first | (go_at_call 32/-f-/; (with_reducible refine (refright_any _ _ _ _ hfs).mono ?_); rintro e w1 ⟨rfl, hb1⟩; have HT1 := Lib.hid (HT.out.below hb1 (Nat.le_refl _)); have HB1 := Lib.hid hb1; clear hb1) | (go_at_call 17/-f-/; (with_reducible refine (awake2_any _ HT1.out).mono ?_); rintro e w2 ⟨rfl, hb2⟩))
    go_ret
    exact ⟨rfl, (HBX.out.trans (HB1.out.mono HBX.out.size)).trans (hb2.mono (Nat.le_trans HBX.out.size HB1.out.size))⟩
set_option maxRecDepth 100000 in
theorem contract (H : Type) (enc : TypeId × Value → H) (W : World) (base : Nat) (args : Array Value) (ds gs : List (DataW H)) (before : List MemPlace)
    (hval : ∀ (j : Nat) t v, Tryd.f8.params[j]? = some t → args[j]? = some v → Value.okWide Tryd.prog W .any base t v)
    (hW : DataW.Whole enc Tryd.prog Tryd.f8.params.toList Rows.valueSpreadsSpec.vars false W args.toList ds gs before) (hL : laidMetH Tryd.prog Rows.valueSpreadsRow.laid W) (hS : W.ShapedOpen Tryd.prog) :
    Calls Tryd.prog 8 args W fun e W' => ∃ v, e = .returned v ∧ Rows.valueSpreadsSpec.post enc Tryd.prog Tryd.f8 false true false false W args v W' := by
  have hW' := hW
  have tb := table hL hS
  obtain ⟨p, q, hA0, hV, rfl, hfz, hnd⟩ := hW
  have hA : DataW.TrodAll enc Tryd.prog W 0 (fun _ => true) true Tryd.f8.params.toList args.toList ds p := hA0
  rw [Tryd.params8] at hA hval
  obtain ⟨v0, vs0, d0, ds0, p0, q0, hargs, rfl, rfl, h0, r0⟩ := trodAll_cons hA
  obtain ⟨v1, vs1, d1, ds1, p1, q1, rfl, rfl, rfl, h1, r1⟩ := trodAll_cons r0
  obtain ⟨rfl, rfl, rfl⟩ := trodAll_nil r1
  obtain rfl : args = #[v0, v1] := by cases args; simp_all
  obtain ⟨rfl, rfl⟩ := trodVars_none hV
  have k0 := h0
  have lt0 : ∀ x ∈ p0, x.block < W.heap.size := by obtain ⟨m, hm⟩ := k0; exact DataW.trod_lt m _ _ _ hm
  obtain ⟨x0, rfl, f0⟩ := open_val (hval 0 35 v0 rfl rfl) h0
  obtain ⟨a1, rfl, rfl, rfl, w1⟩ := open_int Tryd.underlying3 (hval 1 3 v1 rfl rfl) h1
  have b1 := bounds_i64 w1
  clear hA0
  refine (walk x0 a1 W tb f0 b1.1 b1.2).mono fun e W' ⟨he, bel⟩ => ?_
  subst he
  exact ⟨_, rfl, _, _, _, [], _, [], hW', trodAll_mk1 (shut_bool Tryd.underlying4 _), (trodAll_cons_mk (Below.trod laidOut (by kernel_rfl) (of_decide_eq_true (by kernel_rfl)) k0 bel lt0) (trodAll_cons_mk (shut_int Tryd.underlying3 w1) trodAll_mk0)), rfl, bel.frame _, fun h => by cases h⟩
theorem laid_met (os : Os) : laidMet Tryd.prog Rows.valueSpreadsRow.laid ((laidWorld os).forCall (fun _ _ => 0) ⟨#[], #[.agg #[.int .i64 0, .int .i64 0, .string ⟨#[]⟩], .int .i64 0], []⟩).memory :=
  laidMet_of_run' 8 (by kernel_rfl) (by kernel_rfl)
theorem reads (os : Os) {H : Type} (enc : TypeId × Value → H) : ∃ places, DataW.whole enc Tryd.prog ((laidWorld os).forCall (fun _ _ => 0) ⟨#[], #[.agg #[.int .i64 0, .int .i64 0, .string ⟨#[]⟩], .int .i64 0], []⟩).memory Tryd.f8.params.toList Rows.valueSpreadsSpec.vars false (#[.agg #[.int .i64 0, .int .i64 0, .string ⟨#[]⟩], .int .i64 0] : Array Value).toList 8 = some ([.agg [.lit (.int .i64 0), .lit (.int .i64 0), .lit (.string [])], .lit (.int .i64 0)], [], places) :=
  ⟨[], by kernel_rfl⟩
set_option maxRecDepth 100000 in
theorem lifted (os : Os) (started : os.Started) (H : Type) (enc : TypeId × Value → H) (Fi : Stop.Interp) :
    ReturnsInHanded {} Tryd.checked os 8 .any ((OpenSpec.ofChange Rows.valueSpreadsSpec).preRow enc Tryd.prog Tryd.f8 Rows.valueSpreadsRow.domain false Rows.valueSpreadsRow.laid) (((OpenSpec.ofChange Rows.valueSpreadsSpec).at Fi).post enc Tryd.prog Tryd.f8 false true false false) := by
  obtain ⟨places, hx⟩ := reads os enc
  refine returnsInHanded_of_row (C := Tryd.checked) (s := OpenSpec.ofChange Rows.valueSpreadsSpec) own started (by kernel_rfl) Tryd.func8
    (witness_row_at (enc := enc) (C := Tryd.checked) false (laidWorld os) #[.agg #[.int .i64 0, .int .i64 0, .string ⟨#[]⟩], .int .i64 0] rfl (by kernel_rfl) (by kernel_rfl) (by kernel_rfl)
      (OpenSpec.preRow_of_cond 8 hx (by kernel_rfl) (fun k hk => by cases hk) (by kernel_rfl) (laid_met os))) ?_
  intro W base args ds gs before hval hW _ _ _ hL hS _
  exact contract H enc W base args ds gs before hval hW hL hS
theorem said : Rows.ValueSpreadsSaid :=
  OpenClaim.holds_of_cond 8 Tryd.f8 rfl rfl rfl rfl rfl rfl rfl ⟨rfl, rfl, rfl, rfl, rfl⟩ rfl rfl rfl rfl rfl (by kernel_rfl) Tryd.func8 (by kernel_rfl)
    (of_decide_eq_true (by kernel_rfl)) (by unfold Func.isWrapper; first | (rw [if_pos (by decide +kernel)]; kernel_rfl) | (rw [if_neg (by decide +kernel)]; exact ⟨rfl, rfl⟩))
    (fun os started H enc _ Fi => by rw [OpenClaim.pre_eq_preRow]; exact lifted os started H enc Fi)
theorem plain (f : FuncId) (fn : Func) (hf : Tryd.pinned.checked.prog.funcNamed "afflux/affluxlaw02.ValueSpreads" = some f) (hfn : Tryd.pinned.checked.prog.funcs[f]? = some fn) :
    false = Tryd.pinned.checked.prog.looks [] ∧ ∀ (j : Nat) t, fn.params[j]? = some t → Tryd.pinned.checked.prog.wantsStandIn t = false := by
  obtain rfl : f = 8 := Option.some.inj ((show Tryd.prog.funcNamed "afflux/affluxlaw02.ValueSpreads" = some 8 by kernel_rfl).symm.trans hf) |>.symm
  obtain rfl : fn = Tryd.f8 := (Option.some.inj (Tryd.func8.symm.trans hfn)).symm
  refine ⟨by kernel_rfl, fun j t ht => ?_⟩
  rw [Tryd.params8] at ht
  have hm := Array.mem_of_getElem? ht
  simp only [List.mem_toArray, List.mem_cons, List.not_mem_nil, or_false] at hm
  rcases hm with rfl | rfl
  · exact (show Tryd.prog.wantsStandIn 35 = false by kernel_rfl)
  · exact (show Tryd.prog.wantsStandIn 3 = false by kernel_rfl)
theorem proved : Rows.ValueSpreadsCardSaid :=
  Claim7.holds_tied_plain_at .later [] _ _ _ _ said (fun _ h => by cases h) (by kernel_rfl) (fun _ h => by cases h) valueSpreads_row_tie rfl ⟨rfl, rfl⟩ (by kernel_rfl) rfl plain (by kernel_rfl)

end Go.Proofs.YtabdmhlnaahdlaaDoor.ValueSpreads

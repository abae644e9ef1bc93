/- ValueBack: whatever value: what is printed is parsed as it was. Condition: the tables of Go's library that the row lists hold what the library's text lays in them. -/
import Derived.Test.YtabdmhlnaahdlaaDoorOpv
import Derived.Test.YtabdmhlnaahdlaaDoorPas
import Derived.Deep.CutBlock
import Derived.Deep.DeepCutAuto
namespace Go.Proofs.YtabdmhlnaahdlaaDoor.ValueBack
open Go.ChangeShapes Go.WideShapes Go.ChangeAt Go.RowKit
set_option linter.unusedVariables false
theorem itoa_head (n : Int) (r : List UInt8) (c : UInt8) (h : Lib.itoa n = c :: r) : c ≠ 39 ∧ c ≠ 116 ∧ c ≠ 102 := by
  have hg := (Ar.itoa_good n).1
  rw [h] at hg
  have key : c = 45 ∨ Ar.dig c = true := by
    by_cases h45 : c = 45
    · exact .inl h45
    · right
      have hp : Ar.pneg (c :: r) = false := beq_eq_false_iff_ne.2 h45
      have hb : Ar.pbody (c :: r) = c :: r := by unfold Ar.pbody; rw [hp]; rfl
      unfold Ar.pgood at hg
      rw [hb, hp] at hg
      simp [Ar.plainL] at hg
      exact hg.1.1
  refine ⟨fun e => ?_, fun e => ?_, fun e => ?_⟩ <;> (subst e; rcases key with e | e <;> revert e <;> decide)
theorem read_print (x : Val) (hf : FitV x) (hr : rightB x.k x.n x.s = true) : readV ⟨(printOf x).toArray⟩ = x ∧ (⟨(printOf x).toArray⟩ : ByteArray) ≠ ⟨#[]⟩ := by
  obtain ⟨k, n, s⟩ := x
  simp only at hr
  have hn := hf.n
  simp only at hn
  by_cases h1 : k = 1
  · subst h1
    rw [rightB_1] at hr
    have hs : s = ⟨#[]⟩ := of_decide_eq_true hr
    subst hs
    have hp : printOf ⟨1, n, ⟨#[]⟩⟩ = Lib.itoa n := rfl
    rw [hp]
    obtain ⟨hg, hz⟩ := Ar.itoa_good n
    have hne : Lib.itoa n ≠ [] := fun e => by
      rw [e] at hg; revert hg; decide
    cases hc : Lib.itoa n with
    | nil => exact absurd hc hne
    | cons c r =>
      obtain ⟨c1, c2, c3⟩ := itoa_head n r c hc
      refine ⟨?_, fun e => by have := congrArg (fun b : ByteArray => b.data.toList) e; simp at this⟩
      have hE : parseE (c :: r) = 0 := by rw [← hc, parseE, if_pos hg, hz, narE, if_pos hn]
      have hV : parseV (c :: r) = n := by rw [← hc, parseV, if_pos hg, hz, narV, if_pos hn]
      unfold readV
      rw [if_neg (fun e => c2 (by have := congrArg (fun b : ByteArray => b.data.toList) e; simp at this; exact this.1)), if_neg (fun e => c3 (by have := congrArg (fun b : ByteArray => b.data.toList) e; simp at this; exact this.1)), if_neg (fun h => c1 (by simpa using h.2))]
      show (if parseE (c :: r) = 0 then (⟨1, parseV (c :: r), ⟨#[]⟩⟩ : Val) else _) = _
      rw [if_pos hE, hV]
  by_cases h2 : k = 2
  · subst h2
    rw [rightB_2] at hr
    simp at hr
    obtain ⟨rfl, hz⟩ := hr
    have hp : printOf ⟨2, 0, s⟩ = 39 :: (dbl s.data.toList ++ [39]) := rfl
    rw [hp]
    generalize hD : dbl s.data.toList = D
    have hsz : (⟨(39 :: (D ++ [39])).toArray⟩ : ByteArray).size = D.length + 2 := by
      show (39 :: (D ++ [39])).toArray.size = _
      rw [List.size_toArray]; simp
    refine ⟨?_, fun e => by have := congrArg (fun b : ByteArray => b.data.toList) e; simp at this⟩
    unfold readV
    rw [if_neg (fun e => by have := congrArg (fun b : ByteArray => b.data.toList) e; simp at this), if_neg (fun e => by have := congrArg (fun b : ByteArray => b.data.toList) e; simp at this), if_pos ⟨by omega, by simp⟩]
    have hex : ((⟨(39 :: (D ++ [39])).toArray⟩ : ByteArray).extract 1 ((⟨(39 :: (D ++ [39])).toArray⟩ : ByteArray).size - 1)).data.toList = D := by
      rw [hsz, Lib.extract_data]
      simp
    rw [hex, ← hD, und_dbl]
  by_cases h3 : k = 3
  · subst h3
    rw [rightB_3] at hr
    simp at hr
    obtain ⟨hn01, rfl⟩ := hr
    rcases hn01 with rfl | rfl
    · refine ⟨?_, by decide⟩
      show readV sFalse = _
      unfold readV
      rw [if_neg (by decide), if_pos rfl]
    · refine ⟨?_, by decide⟩
      show readV sTrue = _
      unfold readV
      rw [if_pos rfl]
  · rw [rightB_no k n s h1 h2 h3] at hr
    cases hr
theorem parsed_print (x : Val) (hf : FitV x) (hr : rightB x.k x.n x.s = true) : parsedB ⟨(printOf x).toArray⟩ = true := by
  obtain ⟨h1, h2⟩ := read_print x hf hr
  unfold parsedB printed
  rw [h1, if_pos hr]
  simp [h2]
set_option maxRecDepth 100000 in
set_option maxHeartbeats 8000000 in
theorem walk (x : Val) (w : World) (hT : PT w) (hf : FitV x) :
    Calls Tryd.prog 10/-f-/ #[.agg #[.int .i64 x.k, .int .i64 x.n, .string x.s]] w fun e w' => e = .returned (.bool true) ∧ Below w.heap.size w w' := by
  have hbx : Below w.heap.size w (w.alloc (.cells #[.int .i64 x.k, .int .i64 x.n, .string x.s] 35)) := (Below.refl _ _).alloc (Nat.le_refl _) _
  have HBX := Lib.hid hbx
  have HT := Lib.hid (hT.below hbx (Nat.le_refl _))
  have hfs := hf.s
  clear hT hbx
  by_cases hbig : 300 < x.s.size
  · go_enter Tryd.func10/-f-/, Tryd.ntmps10/-f-/
    go_wp2_with (go_at_call 17/-f-/; (with_reducible refine (awake2_any _ HT.out).mono ?_); rintro e w1 ⟨rfl, hb1⟩)
    go_ret
    exact ⟨rfl, HBX.out.trans (hb1.mono HBX.out.size)⟩
  by_cases hr : rightB x.k x.n x.s = true
  · have hp := parsed_print x hf hr
    obtain ⟨hv, hne⟩ := read_print x hf hr
    have hps : (⟨(printOf x).toArray⟩ : ByteArray).size ≤ 1000 := by
      show (printOf x).toArray.size ≤ 1000
      rw [List.size_toArray]
      have h1 := dbl_len x.s.data.toList
      have h2 : x.s.data.toList.length = x.s.size := by rw [Array.length_toList]; rfl
      have h3 := Ar.itoa_len x.n hf.n.1 hf.n.2
      unfold printOf
      split
      · omega
      · split
        · simp only [List.length_append, List.length_cons, List.length_nil]; omega
        · split <;> simp
    have PR := Lib.hid (fun W (h : PT W) => printv_ok x W h hf (by omega) hr)
    have PA := Lib.hid (fun W (h : PT W) => vparse_any _ W h hps)
    rw [hp, hv] at PA
    simp only [if_true] at PA
    have E := eqVal x.k x.n x.k x.n x.s x.s
    simp only [beq_self_eq_true, decide_true, Bool.and_self] at E
    have hg := guardVal
    clear hp hv hne hps
    generalize (⟨(printOf x).toArray⟩ : ByteArray) = S at *
    go_enter Tryd.func10/-f-/, Tryd.ntmps10/-f-/
    go_upto_region 3 with (go_at_call 32/-f-/; (with_reducible refine (refright_any _ _ _ _ hfs).mono ?_); rintro e w1 ⟨rfl, hb1⟩; have hq := hb1.cell (p := ⟨w.heap.size, 0, none⟩) (by simp); have hq1 := hb1.cell (p := ⟨w.heap.size, 1, none⟩) (by simp); have hq2 := hb1.cell (p := ⟨w.heap.size, 2, none⟩) (by simp); have HT1 := Lib.hid (HT.out.below hb1 (Nat.le_refl _)); have HB1 := Lib.hid hb1; have hz1 := hb1.size; simp at hz1; simp at hq hq1 hq2; clear hb1)
    go_wp2_with (first
      | (go_at_call 34/-f-/; (with_reducible refine (PR.out _ HT1.out).mono ?_); rintro e w2 ⟨rfl, hb2⟩; have HT2 := Lib.hid (HT1.out.below hb2 (Nat.le_refl _)); have HB2 := Lib.hid hb2; clear hb2)
      | (go_at_call 35/-f-/; (with_reducible refine (PA.out _ HT2.out).mono ?_); rintro e w3 ⟨rfl, hb3⟩; have HT3 := Lib.hid (HT2.out.below hb3 (Nat.le_refl _)); have HB3 := Lib.hid (show Below w1.heap.size w1 w3 from HB2.out.trans (hb3.mono HB2.out.size)); have r0 := (HB3.out.cell (p := ⟨w.heap.size, 0, none⟩) (by show w.heap.size < w1.heap.size; omega)).trans hq; have r1 := (HB3.out.cell (p := ⟨w.heap.size, 1, none⟩) (by show w.heap.size < w1.heap.size; omega)).trans hq1; have r2 := (HB3.out.cell (p := ⟨w.heap.size, 2, none⟩) (by show w.heap.size < w1.heap.size; omega)).trans hq2; have hz3 : w.heap.size < w3.heap.size := (by have := HB3.out.size; omega); have HT4 := Lib.hid (HT3.out.below ((Below.refl w3.heap.size w3).alloc (Nat.le_refl _) (.cells #[.int .i64 x.k, .int .i64 x.n, .string x.s] 35)) (Nat.le_refl _)); clear hb3)
      | (go_at_call 17/-f-/; (with_reducible refine (awake2_any _ HT4.out).mono ?_); rintro e w4 ⟨rfl, hb4⟩))
    go_ret
    have hB3 : Below w.heap.size w w3 := (HBX.out.trans (HB1.out.mono HBX.out.size)).trans (HB3.out.mono (by omega))
    exact ⟨rfl, (hB3.alloc hB3.size _).trans (hb4.mono (by simp; omega))⟩
  · have hr' : rightB x.k x.n x.s = false := by simpa using hr
    clear hr
    go_enter Tryd.func10/-f-/, Tryd.ntmps10/-f-/
    go_wp2_with (first | (go_at_call 32/-f-/; (with_reducible refine (refright_any _ _ _ _ hfs).mono ?_); rintro e w1 ⟨rfl, hb1⟩; have HT1 := Lib.hid (HT.out.below hb1 (Nat.le_refl _)); have HB1 := Lib.hid hb1; clear hb1) | (go_at_call 17/-f-/; (with_reducible refine (awake2_any _ HT1.out).mono ?_); rintro e w2 ⟨rfl, hb2⟩))
    go_ret
    exact ⟨rfl, (HBX.out.trans (HB1.out.mono HBX.out.size)).trans (hb2.mono (Nat.le_trans HBX.out.size HB1.out.size))⟩
set_option maxRecDepth 100000 in
theorem contract (H : Type) (enc : TypeId × Value → H) (W : World) (base : Nat) (args : Array Value) (ds gs : List (DataW H)) (before : List MemPlace)
    (hval : ∀ (j : Nat) t v, Tryd.f10.params[j]? = some t → args[j]? = some v → Value.okWide Tryd.prog W .any base t v)
    (hW : DataW.Whole enc Tryd.prog Tryd.f10.params.toList Rows.valueBackSpec.vars false W args.toList ds gs before) (hL : laidMetH Tryd.prog Rows.valueBackRow.laid W) (hS : W.ShapedOpen Tryd.prog) :
    Calls Tryd.prog 10 args W fun e W' => ∃ v, e = .returned v ∧ Rows.valueBackSpec.post enc Tryd.prog Tryd.f10 false true false false W args v W' := by
  have hW' := hW
  have tb := table hL hS
  obtain ⟨p, q, hA0, hV, rfl, hfz, hnd⟩ := hW
  have hA : DataW.TrodAll enc Tryd.prog W 0 (fun _ => true) true Tryd.f10.params.toList args.toList ds p := hA0
  rw [Tryd.params10] at hA hval
  obtain ⟨v0, vs0, d0, ds0, p0, q0, hargs, rfl, rfl, h0, r0⟩ := trodAll_cons hA
  obtain ⟨rfl, rfl, rfl⟩ := trodAll_nil r0
  obtain rfl : args = #[v0] := by cases args; simp_all
  obtain ⟨rfl, rfl⟩ := trodVars_none hV
  have k0 := h0
  have lt0 : ∀ x ∈ p0, x.block < W.heap.size := by obtain ⟨m, hm⟩ := k0; exact DataW.trod_lt m _ _ _ hm
  obtain ⟨x0, rfl, f0⟩ := open_val (hval 0 35 v0 rfl rfl) h0
  clear hA0
  refine (walk x0 W tb f0).mono fun e W' ⟨he, bel⟩ => ?_
  subst he
  exact ⟨_, rfl, _, _, _, [], _, [], hW', trodAll_mk1 (shut_bool Tryd.underlying4 _), (trodAll_cons_mk (Below.trod laidOut (by kernel_rfl) (of_decide_eq_true (by kernel_rfl)) k0 bel lt0) trodAll_mk0), rfl, bel.frame _, fun h => by cases h⟩
theorem laid_met (os : Os) : laidMet Tryd.prog Rows.valueBackRow.laid ((laidWorld os).forCall (fun _ _ => 0) ⟨#[], #[.agg #[.int .i64 0, .int .i64 0, .string ⟨#[]⟩]], []⟩).memory :=
  laidMet_of_run' 8 (by kernel_rfl) (by kernel_rfl)
theorem reads (os : Os) {H : Type} (enc : TypeId × Value → H) : ∃ places, DataW.whole enc Tryd.prog ((laidWorld os).forCall (fun _ _ => 0) ⟨#[], #[.agg #[.int .i64 0, .int .i64 0, .string ⟨#[]⟩]], []⟩).memory Tryd.f10.params.toList Rows.valueBackSpec.vars false (#[.agg #[.int .i64 0, .int .i64 0, .string ⟨#[]⟩]] : Array Value).toList 8 = some ([.agg [.lit (.int .i64 0), .lit (.int .i64 0), .lit (.string [])]], [], places) :=
  ⟨[], by kernel_rfl⟩
set_option maxRecDepth 100000 in
theorem lifted (os : Os) (started : os.Started) (H : Type) (enc : TypeId × Value → H) (Fi : Stop.Interp) :
    ReturnsInHanded {} Tryd.checked os 10 .any ((OpenSpec.ofChange Rows.valueBackSpec).preRow enc Tryd.prog Tryd.f10 Rows.valueBackRow.domain false Rows.valueBackRow.laid) (((OpenSpec.ofChange Rows.valueBackSpec).at Fi).post enc Tryd.prog Tryd.f10 false true false false) := by
  obtain ⟨places, hx⟩ := reads os enc
  refine returnsInHanded_of_row (C := Tryd.checked) (s := OpenSpec.ofChange Rows.valueBackSpec) own started (by kernel_rfl) Tryd.func10
    (witness_row_at (enc := enc) (C := Tryd.checked) false (laidWorld os) #[.agg #[.int .i64 0, .int .i64 0, .string ⟨#[]⟩]] rfl (by kernel_rfl) (by kernel_rfl) (by kernel_rfl)
      (OpenSpec.preRow_of_cond 8 hx (by kernel_rfl) (fun k hk => by cases hk) (by kernel_rfl) (laid_met os))) ?_
  intro W base args ds gs before hval hW _ _ _ hL hS _
  exact contract H enc W base args ds gs before hval hW hL hS
theorem said : Rows.ValueBackSaid :=
  OpenClaim.holds_of_cond 10 Tryd.f10 rfl rfl rfl rfl rfl rfl rfl ⟨rfl, rfl, rfl, rfl, rfl⟩ rfl rfl rfl rfl rfl (by kernel_rfl) Tryd.func10 (by kernel_rfl)
    (of_decide_eq_true (by kernel_rfl)) (by unfold Func.isWrapper; first | (rw [if_pos (by decide +kernel)]; kernel_rfl) | (rw [if_neg (by decide +kernel)]; exact ⟨rfl, rfl⟩))
    (fun os started H enc _ Fi => by rw [OpenClaim.pre_eq_preRow]; exact lifted os started H enc Fi)
theorem plain (f : FuncId) (fn : Func) (hf : Tryd.pinned.checked.prog.funcNamed "afflux/affluxlaw02.ValueBack" = some f) (hfn : Tryd.pinned.checked.prog.funcs[f]? = some fn) :
    false = Tryd.pinned.checked.prog.looks [] ∧ ∀ (j : Nat) t, fn.params[j]? = some t → Tryd.pinned.checked.prog.wantsStandIn t = false := by
  obtain rfl : f = 10 := Option.some.inj ((show Tryd.prog.funcNamed "afflux/affluxlaw02.ValueBack" = some 10 by kernel_rfl).symm.trans hf) |>.symm
  obtain rfl : fn = Tryd.f10 := (Option.some.inj (Tryd.func10.symm.trans hfn)).symm
  refine ⟨by kernel_rfl, fun j t ht => ?_⟩
  rw [Tryd.params10] at ht
  have hm := Array.mem_of_getElem? ht
  simp only [List.mem_toArray, List.mem_cons, List.not_mem_nil, or_false] at hm
  rcases hm with rfl
  · exact (show Tryd.prog.wantsStandIn 35 = false by kernel_rfl)
theorem proved : Rows.ValueBackCardSaid :=
  Claim7.holds_tied_plain_at .later [] _ _ _ _ said (fun _ h => by cases h) (by kernel_rfl) (fun _ h => by cases h) valueBack_row_tie rfl ⟨rfl, rfl⟩ (by kernel_rfl) rfl plain (by kernel_rfl)

end Go.Proofs.YtabdmhlnaahdlaaDoor.ValueBack

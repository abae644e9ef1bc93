/- ValueOrders: any values: whether they are right, and which stands first; rows likewise. Condition: the tables of Go's library that the row lists hold what the library's text lays in them. -/
import Derived.Test.YtabdmhlnaahdlaaDoorOpv
import Derived.Test.YtabdmhlnaahdlaaDoorRow
import Derived.Deep.CutBlock
import Derived.Deep.DeepCutAuto
import Derived.Deep.RegionHeld3
namespace Go.Proofs.YtabdmhlnaahdlaaDoor.ValueOrders
open Go.ChangeShapes Go.WideShapes Go.ChangeAt Go.RowKit
set_option linter.unusedVariables false
set_option maxRecDepth 100000 in
set_option maxHeartbeats 8000000 in
theorem walk (A B : Option Addr) (n c m d : Nat) (xs ys : List Val) (z : Int) (s : ByteArray) (t : Bool) (w : World) (hT : PT w) (hA : Vals w A xs) (hB : Vals w B ys) (hn : xs.length = n) (hm : ys.length = m) (hf : ∀ x ∈ xs, FitV x) (hg : ∀ x ∈ ys, FitV x)
    (hs1 : n ≤ 9223372036854775807) (hs2 : m ≤ 9223372036854775807) (hs3 : s.size ≤ 9223372036854775807) :
    Calls Tryd.prog 5/-f-/ #[.slice A n c, .slice B m d, .int .i64 z, .string s, .bool t] w fun e w' => e = .returned (.bool true) ∧ Below w.heap.size w w' := by
  subst hn hm
  have GA := Lib.hid (refgreat_any A xs.length c xs w hA rfl hf hs1)
  have GB := Lib.hid (refgreat_any B ys.length d ys w hB rfl hg hs2)
  have HT := Lib.hid hT
  have HA := Lib.hid hA
  have HB := Lib.hid hB
  have HF := Lib.hid hf
  have HG := Lib.hid hg
  clear hT hA hB hf hg
  have hG1 := fun h => great_no (vs := xs) h
  have hG2 := fun h => great_no (vs := ys) h
  have HG1 := Lib.hid hG1
  have HG2 := Lib.hid hG2
  clear hG1 hG2
  generalize greatB xs = g1 at *
  generalize greatB ys = g2 at *
  by_cases hgr : g1 = true ∨ g2 = true ∨ 300 < s.size
  · have key : ∀ (P : Prop), P → P := fun _ h => h
    cases g1
    · cases g2
      · have hsz : 300 < s.size := by simpa using hgr
        clear hgr key
        go_enter Tryd.func5/-f-/, Tryd.ntmps5/-f-/
        go_wp2_with (first | (go_at_call 16/-f-/; (with_reducible refine GA.out.mono ?_); rintro e w1 ⟨rfl, rfl⟩) | (go_at_call 16/-f-/; (with_reducible refine GB.out.mono ?_); rintro e w1 ⟨rfl, rfl⟩) | (go_at_call 17/-f-/; (with_reducible refine (awake2_any _ HT.out).mono ?_); rintro e w2 ⟨rfl, hb2⟩))
        go_ret
        exact ⟨rfl, hb2⟩
      · clear hgr key
        go_enter Tryd.func5/-f-/, Tryd.ntmps5/-f-/
        go_wp2_with (first | (go_at_call 16/-f-/; (with_reducible refine GA.out.mono ?_); rintro e w1 ⟨rfl, rfl⟩) | (go_at_call 16/-f-/; (with_reducible refine GB.out.mono ?_); rintro e w1 ⟨rfl, rfl⟩) | (go_at_call 17/-f-/; (with_reducible refine (awake2_any _ HT.out).mono ?_); rintro e w2 ⟨rfl, hb2⟩))
        go_ret
        exact ⟨rfl, hb2⟩
    · clear hgr key
      go_enter Tryd.func5/-f-/, Tryd.ntmps5/-f-/
      go_wp2_with (first | (go_at_call 16/-f-/; (with_reducible refine GA.out.mono ?_); rintro e w1 ⟨rfl, rfl⟩) | (go_at_call 17/-f-/; (with_reducible refine (awake2_any _ HT.out).mono ?_); rintro e w2 ⟨rfl, hb2⟩))
      go_ret
      exact ⟨rfl, hb2⟩
  have hg1 : g1 = false := by cases g1; rfl; exact absurd (Or.inl rfl) hgr
  have hg2 : g2 = false := by cases g2; rfl; exact absurd (Or.inr (Or.inl rfl)) hgr
  have hsz : s.size ≤ 300 := by
    rcases Nat.lt_or_ge 300 s.size with h | h
    · exact absurd (Or.inr (Or.inr h)) hgr
    · exact h
  subst hg1 hg2
  have hl1 := (HG1.out rfl).1
  have hl2 := (HG2.out rfl).1
  clear hgr hs1 hs2
  go_enter Tryd.func5/-f-/, Tryd.ntmps5/-f-/
  go_wp2_with (first | (go_at_call 16/-f-/; (with_reducible refine GA.out.mono ?_); rintro e w1 ⟨rfl, rfl⟩) | (go_at_call 16/-f-/; (with_reducible refine GB.out.mono ?_); rintro e w1 ⟨rfl, rfl⟩))
  go_loopw [11] (fun i wr => ∃ k : Nat, k ≤ xs.length ∧ k ≤ ys.length ∧ i = .int .i64 k ∧ Below w.heap.size w wr) (fun i _ => xs.length - (intOf i).toNat)
  case atStart => exact ⟨0, Nat.zero_le _, Nat.zero_le _, rfl, Below.refl _ _⟩
  case round =>
    obtain ⟨k, hk, hk', rfl, hbl⟩ := hrel
    have hsz2 := hbl.size
    by_cases hin : k < xs.length ∧ k < ys.length
    · obtain ⟨hi1, hi2⟩ := hin
      obtain ⟨b1, o1, rfl, hb1, hz1, x0, x1, x2⟩ := HA.out.at_ hbl k hi1
      obtain ⟨b2, o2, rfl, hb2, hz2, y0, y1, y2⟩ := HB.out.at_ hbl k hi2
      generalize xs.getD k default = x at *
      generalize ys.getD k default = y at *
      have RC := Lib.hid (fun W => cmp_any x y W)
      have RR := Lib.hid (fun W => refcmp_any x y W)
      generalize valCmp x y = cc at *
      go_upto_region 6 with fail
      go_region_held3 (fun W => W.cell? ⟨b1, o1 + k * 3, none⟩ = some (.int .i64 x.k) ∧ W.cell? ⟨b1, o1 + k * 3 + 1, none⟩ = some (.int .i64 x.n) ∧ W.cell? ⟨b1, o1 + k * 3 + 2, none⟩ = some (.string x.s) ∧ W.cell? ⟨b2, o2 + k * 3, none⟩ = some (.int .i64 y.k) ∧ W.cell? ⟨b2, o2 + k * 3 + 1, none⟩ = some (.int .i64 y.n) ∧ W.cell? ⟨b2, o2 + k * 3 + 2, none⟩ = some (.string y.s))
        (first | exact ⟨x0, x1, x2, y0, y1, y2⟩ | exact ⟨d0, d1, d2, d3, d4, d5⟩ | exact ⟨e0, e1, e2, e3, e4, e5⟩ | exact ⟨f0, f1, f2, f3, f4, f5⟩ | exact ⟨h0, h1, h2, h3, h4, h5⟩)
        (first
          | (go_at_call 18/-f-/; (with_reducible refine (RC.out _).mono ?_); rintro e w1 ⟨rfl, hbe⟩; have HBE := Lib.hid hbe; have d0 := (hbe.cell (p := ⟨b1, o1 + k * 3, none⟩) hz1).trans x0; have d1 := (hbe.cell (p := ⟨b1, o1 + k * 3 + 1, none⟩) hz1).trans x1; have d2 := (hbe.cell (p := ⟨b1, o1 + k * 3 + 2, none⟩) hz1).trans x2; have d3 := (hbe.cell (p := ⟨b2, o2 + k * 3, none⟩) hz2).trans y0; have d4 := (hbe.cell (p := ⟨b2, o2 + k * 3 + 1, none⟩) hz2).trans y1; have d5 := (hbe.cell (p := ⟨b2, o2 + k * 3 + 2, none⟩) hz2).trans y2; have hy1 : b1 < w1.heap.size := Nat.lt_of_lt_of_le hz1 hbe.size; have hy2 : b2 < w1.heap.size := Nat.lt_of_lt_of_le hz2 hbe.size; clear hbe)
          | (go_at_call 19/-f-/; (with_reducible refine (RR.out _).mono ?_); rintro e w2 ⟨rfl, hbe⟩; have HBF := Lib.hid hbe; have e0 := (hbe.cell (p := ⟨b1, o1 + k * 3, none⟩) hy1).trans d0; have e1 := (hbe.cell (p := ⟨b1, o1 + k * 3 + 1, none⟩) hy1).trans d1; have e2 := (hbe.cell (p := ⟨b1, o1 + k * 3 + 2, none⟩) hy1).trans d2; have e3 := (hbe.cell (p := ⟨b2, o2 + k * 3, none⟩) hy2).trans d3; have e4 := (hbe.cell (p := ⟨b2, o2 + k * 3 + 1, none⟩) hy2).trans d4; have e5 := (hbe.cell (p := ⟨b2, o2 + k * 3 + 2, none⟩) hy2).trans d5; clear hbe))
      go_wp2
      go_roundw
      case rel => exact ⟨k + 1, by omega, by omega, by go_num, (hbl.drew.trans (HBE.out.mono (by simpa using hsz2))).trans (HBF.out.mono (by have := HBE.out.size; simp at this; omega))⟩
      case measure => simp [intOf]; omega
    · have R1 := Lib.hid (fun W (h : Vals W A xs) => rightall_any A xs.length c xs W h rfl HF.out (by omega))
      have R2 := Lib.hid (fun W (h : Vals W A xs) => refall_any A xs.length c xs W h rfl HF.out (by omega))
      have R3 := Lib.hid (fun W (h : Vals W A xs) (h2 : Vals W B ys) => rows_any A B xs.length c ys.length d xs ys W h h2 rfl rfl (by omega) (by omega))
      have R4 := Lib.hid (fun W (h : Vals W A xs) (h2 : Vals W B ys) => refrows_any A B xs.length c ys.length d xs ys W h h2 rfl rfl (by omega) (by omega))
      have E1 : ∀ W, (Op.equalIn 10000 35 (.agg #[.int .i64 1, .int .i64 z, .string ⟨#[]⟩]) (.agg #[.int .i64 1, .int .i64 z, .string ⟨#[]⟩])).run Tryd.prog W = .ok true W := fun W => by rw [eqVal]; simp
      have E2 : ∀ W, (Op.equalIn 10000 35 (.agg #[.int .i64 2, .int .i64 0, .string s]) (.agg #[.int .i64 2, .int .i64 0, .string s])).run Tryd.prog W = .ok true W := fun W => by rw [eqVal]; simp
      have E3 : ∀ W, (Op.equalIn 10000 35 (.agg #[.int .i64 3, .int .i64 0, .string ⟨#[]⟩]) (.agg #[.int .i64 3, .int .i64 0, .string ⟨#[]⟩])).run Tryd.prog W = .ok true W := fun W => by rw [eqVal]; simp
      have E4 : ∀ W, (Op.equalIn 10000 35 (.agg #[.int .i64 3, .int .i64 1, .string ⟨#[]⟩]) (.agg #[.int .i64 3, .int .i64 1, .string ⟨#[]⟩])).run Tryd.prog W = .ok true W := fun W => by rw [eqVal]; simp
      have hgv := guardVal
      have H0 := Lib.hid hbl
      have hno : (decide ((k : Int) < xs.length) && decide ((k : Int) < ys.length)) = false := by
        rcases Nat.lt_or_ge k xs.length with h | h
        · have h2 : ¬ k < ys.length := fun h2 => hin ⟨h, h2⟩
          simp; omega
        · simp; omega
      generalize rall xs = r1 at *
      generalize valRows xs ys = r2 at *
      have hkx : k < xs.length ∨ ¬ k < xs.length := Nat.lt_or_ge k xs.length |>.imp id (fun h => by omega)
      have HIN := Lib.hid hin
      clear hin hno
      rcases hkx with hkx | hkx
      all_goals
        have hky : k < xs.length → ¬ k < ys.length := fun h h2 => HIN.out ⟨h, h2⟩
        have HKY := Lib.hid hky
        clear hky
        cases t
        all_goals
          try (have hky2 : ¬ k < ys.length := HKY.out hkx)
          go_wp2_with (first
            | (go_at_call 20/-f-/; (with_reducible refine (R1.out _ (HA.out.keep H0.out)).mono ?_); rintro e w1 ⟨rfl, hb⟩; have H1 := Lib.hid (H0.out.trans (hb.mono H0.out.size)); clear hb)
            | (go_at_call 21/-f-/; (with_reducible refine (R2.out _ (HA.out.keep H1.out)).mono ?_); rintro e w2 ⟨rfl, hb⟩; have H2 := Lib.hid (H1.out.trans (hb.mono H1.out.size)); clear hb)
            | (go_at_call 22/-f-/; (with_reducible refine (R3.out _ (HA.out.keep H2.out) (HB.out.keep H2.out)).mono ?_); rintro e w3 ⟨rfl, hb⟩; have H3 := Lib.hid (H2.out.trans (hb.mono H2.out.size)); clear hb)
            | (go_at_call 23/-f-/; (with_reducible refine (R4.out _ (HA.out.keep H3.out) (HB.out.keep H3.out)).mono ?_); rintro e w4 ⟨rfl, hb⟩; have H4 := Lib.hid (H3.out.trans (hb.mono H3.out.size)); clear hb)
            | (go_at_call 24/-f-/; (with_reducible refine (int_any _ _).mono ?_); rintro e w5 ⟨rfl, hb⟩; have H5 := Lib.hid (H4.out.trans (hb.mono H4.out.size)); clear hb)
            | (go_at_call 25/-f-/; (with_reducible refine (text_any _ _).mono ?_); rintro e w6 ⟨rfl, hb⟩; have H6 := Lib.hid (H5.out.trans (hb.mono H5.out.size)); clear hb)
            | (go_at_call 26/-f-/; (with_reducible refine (bool_any _ _).mono ?_); rintro e w7 ⟨rfl, hb⟩; have H7 := Lib.hid (H6.out.trans (hb.mono H6.out.size)); clear hb)
            | (go_at_call 17/-f-/; (with_reducible refine (awake2_any _ (HT.out.below H7.out (Nat.le_refl _))).mono ?_); rintro e w8 ⟨rfl, hb⟩; have H8 := Lib.hid (H7.out.trans (hb.mono H7.out.size)); clear hb))
          go_ret
          exact ⟨rfl, H8.out⟩
set_option maxRecDepth 100000 in
theorem contract (H : Type) (enc : TypeId × Value → H) (W : World) (base : Nat) (args : Array Value) (ds gs : List (DataW H)) (before : List MemPlace)
    (hval : ∀ (j : Nat) t v, Tryd.f5.params[j]? = some t → args[j]? = some v → Value.okWide Tryd.prog W .any base t v)
    (hW : DataW.Whole enc Tryd.prog Tryd.f5.params.toList Rows.valueOrdersSpec.vars false W args.toList ds gs before) (hL : laidMetH Tryd.prog Rows.valueOrdersRow.laid W) (hS : W.ShapedOpen Tryd.prog) :
    Calls Tryd.prog 5 args W fun e W' => ∃ v, e = .returned v ∧ Rows.valueOrdersSpec.post enc Tryd.prog Tryd.f5 false true false false W args v W' := by
  have hW' := hW
  have tb := table hL hS
  obtain ⟨p, q, hA0, hV, rfl, hfz, hnd⟩ := hW
  have hA : DataW.TrodAll enc Tryd.prog W 0 (fun _ => true) true Tryd.f5.params.toList args.toList ds p := hA0
  rw [Tryd.params5] at hA hval
  obtain ⟨v0, vs0, d0, ds0, p0, q0, hargs, rfl, rfl, h0, r0⟩ := trodAll_cons hA
  obtain ⟨v1, vs1, d1, ds1, p1, q1, rfl, rfl, rfl, h1, r1⟩ := trodAll_cons r0
  obtain ⟨v2, vs2, d2, ds2, p2, q2, rfl, rfl, rfl, h2, r2⟩ := trodAll_cons r1
  obtain ⟨v3, vs3, d3, ds3, p3, q3, rfl, rfl, rfl, h3, r3⟩ := trodAll_cons r2
  obtain ⟨v4, vs4, d4, ds4, p4, q4, rfl, rfl, rfl, h4, r4⟩ := trodAll_cons r3
  obtain ⟨rfl, rfl, rfl⟩ := trodAll_nil r4
  obtain rfl : args = #[v0, v1, v2, v3, v4] := by cases args; simp_all
  obtain ⟨rfl, rfl⟩ := trodVars_none hV
  obtain ⟨a0, len0, cap0, rfl⟩ := okWide_slice Tryd.underlying31 (hval 0 31 v0 rfl rfl)
  have k0 := h0
  have lt0 : ∀ x ∈ p0, x.block < W.heap.size := by obtain ⟨m, hm⟩ := k0; exact DataW.trod_lt m _ _ _ hm
  obtain ⟨fuel0, hf0⟩ := h0
  have hg0 : DataW.trod enc Tryd.prog W 0 (fun _ => true) true fuel0 31 [.slice a0 len0 cap0] = some (d0, p0) := by simpa [Value.cells] using hf0
  obtain ⟨lm0, lc0, l0, hn0, kA0, ff0⟩ := open_vals hg0
  obtain ⟨a1, len1, cap1, rfl⟩ := okWide_slice Tryd.underlying31 (hval 1 31 v1 rfl rfl)
  have k1 := h1
  have lt1 : ∀ x ∈ p1, x.block < W.heap.size := by obtain ⟨m, hm⟩ := k1; exact DataW.trod_lt m _ _ _ hm
  obtain ⟨fuel1, hf1⟩ := h1
  have hg1 : DataW.trod enc Tryd.prog W 0 (fun _ => true) true fuel1 31 [.slice a1 len1 cap1] = some (d1, p1) := by simpa [Value.cells] using hf1
  obtain ⟨lm1, lc1, l1, hn1, kA1, ff1⟩ := open_vals hg1
  obtain ⟨a2, rfl, rfl, rfl, w2⟩ := open_int Tryd.underlying2 (hval 2 2 v2 rfl rfl) h2
  have b2 := bounds_i64 w2
  obtain ⟨s3, rfl, rfl, rfl, z3⟩ := Go.ChangeMaps.open_string Tryd.underlying9 (hval 3 9 v3 rfl rfl) h3
  obtain ⟨a4, rfl, rfl, rfl⟩ := open_bool Tryd.underlying4 (hval 4 4 v4 rfl rfl) h4
  clear hA0
  refine (walk a0 a1 len0 cap0 len1 cap1 l0 l1 a2 s3 a4 W tb kA0 kA1 hn0 hn1 ff0 ff1 lm0 lm1 z3).mono fun e W' ⟨he, bel⟩ => ?_
  subst he
  exact ⟨_, rfl, _, _, _, [], _, [], hW', trodAll_mk1 (shut_bool Tryd.underlying4 _), (trodAll_cons_mk (Below.trod laidOut (by kernel_rfl) (of_decide_eq_true (by kernel_rfl)) k0 bel lt0) (trodAll_cons_mk (Below.trod laidOut (by kernel_rfl) (of_decide_eq_true (by kernel_rfl)) k1 bel lt1) (trodAll_cons_mk (shut_int Tryd.underlying2 w2) (trodAll_cons_mk (Go.ChangeMaps.shut_string Tryd.underlying9 z3) (trodAll_cons_mk (shut_bool Tryd.underlying4 _) trodAll_mk0))))), rfl, bel.frame _, fun h => by cases h⟩
theorem laid_met (os : Os) : laidMet Tryd.prog Rows.valueOrdersRow.laid ((laidWorld os).forCall (fun _ _ => 0) ⟨#[], #[.slice none 0 0, .slice none 0 0, .int .i64 0, .string ⟨#[]⟩, .bool false], []⟩).memory :=
  laidMet_of_run' 8 (by kernel_rfl) (by kernel_rfl)
theorem reads (os : Os) {H : Type} (enc : TypeId × Value → H) : ∃ places, DataW.whole enc Tryd.prog ((laidWorld os).forCall (fun _ _ => 0) ⟨#[], #[.slice none 0 0, .slice none 0 0, .int .i64 0, .string ⟨#[]⟩, .bool false], []⟩).memory Tryd.f5.params.toList Rows.valueOrdersSpec.vars false (#[.slice none 0 0, .slice none 0 0, .int .i64 0, .string ⟨#[]⟩, .bool false] : Array Value).toList 8 = some ([.nil, .nil, .lit (.int .i64 0), .lit (.string []), .lit (.bool false)], [], places) :=
  ⟨[], by kernel_rfl⟩
set_option maxRecDepth 100000 in
theorem lifted (os : Os) (started : os.Started) (H : Type) (enc : TypeId × Value → H) (Fi : Stop.Interp) :
    ReturnsInHanded {} Tryd.checked os 5 .any ((OpenSpec.ofChange Rows.valueOrdersSpec).preRow enc Tryd.prog Tryd.f5 Rows.valueOrdersRow.domain false Rows.valueOrdersRow.laid) (((OpenSpec.ofChange Rows.valueOrdersSpec).at Fi).post enc Tryd.prog Tryd.f5 false true false false) := by
  obtain ⟨places, hx⟩ := reads os enc
  refine returnsInHanded_of_row (C := Tryd.checked) (s := OpenSpec.ofChange Rows.valueOrdersSpec) own started (by kernel_rfl) Tryd.func5
    (witness_row_at (enc := enc) (C := Tryd.checked) false (laidWorld os) #[.slice none 0 0, .slice none 0 0, .int .i64 0, .string ⟨#[]⟩, .bool false] rfl (by kernel_rfl) (by kernel_rfl) (by kernel_rfl)
      (OpenSpec.preRow_of_cond 8 hx (by kernel_rfl) (fun k hk => by cases hk) (by kernel_rfl) (laid_met os))) ?_
  intro W base args ds gs before hval hW _ _ _ hL hS _
  exact contract H enc W base args ds gs before hval hW hL hS
theorem said : Rows.ValueOrdersSaid :=
  OpenClaim.holds_of_cond 5 Tryd.f5 rfl rfl rfl rfl rfl rfl rfl ⟨rfl, rfl, rfl, rfl, rfl⟩ rfl rfl rfl rfl rfl (by kernel_rfl) Tryd.func5 (by kernel_rfl)
    (of_decide_eq_true (by kernel_rfl)) (by unfold Func.isWrapper; first | (rw [if_pos (by decide +kernel)]; kernel_rfl) | (rw [if_neg (by decide +kernel)]; exact ⟨rfl, rfl⟩))
    (fun os started H enc _ Fi => by rw [OpenClaim.pre_eq_preRow]; exact lifted os started H enc Fi)
theorem plain (f : FuncId) (fn : Func) (hf : Tryd.pinned.checked.prog.funcNamed "afflux/affluxlaw02.ValueOrders" = some f) (hfn : Tryd.pinned.checked.prog.funcs[f]? = some fn) :
    false = Tryd.pinned.checked.prog.looks [] ∧ ∀ (j : Nat) t, fn.params[j]? = some t → Tryd.pinned.checked.prog.wantsStandIn t = false := by
  obtain rfl : f = 5 := Option.some.inj ((show Tryd.prog.funcNamed "afflux/affluxlaw02.ValueOrders" = some 5 by kernel_rfl).symm.trans hf) |>.symm
  obtain rfl : fn = Tryd.f5 := (Option.some.inj (Tryd.func5.symm.trans hfn)).symm
  refine ⟨by kernel_rfl, fun j t ht => ?_⟩
  rw [Tryd.params5] at ht
  have hm := Array.mem_of_getElem? ht
  simp only [List.mem_toArray, List.mem_cons, List.not_mem_nil, or_false] at hm
  rcases hm with rfl | rfl | rfl | rfl | rfl
  · exact (show Tryd.prog.wantsStandIn 31 = false by kernel_rfl)
  · exact (show Tryd.prog.wantsStandIn 31 = false by kernel_rfl)
  · exact (show Tryd.prog.wantsStandIn 2 = false by kernel_rfl)
  · exact (show Tryd.prog.wantsStandIn 9 = false by kernel_rfl)
  · exact (show Tryd.prog.wantsStandIn 4 = false by kernel_rfl)
theorem proved : Rows.ValueOrdersCardSaid :=
  Claim7.holds_tied_plain_at .later [] _ _ _ _ said (fun _ h => by cases h) (by kernel_rfl) (fun _ h => by cases h) valueOrders_row_tie rfl ⟨rfl, rfl⟩ (by kernel_rfl) rfl plain (by kernel_rfl)

end Go.Proofs.YtabdmhlnaahdlaaDoor.ValueOrders

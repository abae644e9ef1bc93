/- ValueTexts: any value's print, any row's line, any text's value. Condition: the tables of Go's library that the row lists hold what the library's text lays in them. -/
import Derived.Test.YtabdmhlnaahdlaaDoorOpv
import Derived.Test.YtabdmhlnaahdlaaDoorLin
import Derived.Test.YtabdmhlnaahdlaaDoorRpa
import Derived.Deep.CutBlock
import Derived.Deep.DeepCutAuto
import Derived.Deep.RegionHeld3
namespace Go.Proofs.YtabdmhlnaahdlaaDoor.ValueTexts
open Go.ChangeShapes Go.WideShapes Go.ChangeAt Go.RowKit
set_option linter.unusedVariables false
set_option maxRecDepth 100000 in
set_option maxHeartbeats 8000000 in
theorem core (A : Option Addr) (c : Nat) (vs : List Val) (s : ByteArray) (w : World) (hT : PT w) (hA : Vals w A vs) (hf : ∀ x ∈ vs, FitV x) (hn : vs.length ≤ 30) (hz : ∀ x ∈ vs, x.s.size ≤ 300) (hs : s.size ≤ 600)
    (GA : ∀ W, Vals W A vs → Calls Tryd.prog 16/-f-/ #[.slice A vs.length c] W fun e w' => e = .returned (.bool false) ∧ W = w') :
    Calls Tryd.prog 7/-f-/ #[.slice A vs.length c, .string s] w fun e w' => e = .returned (.bool true) ∧ Below w.heap.size w w' := by
  have hsb : decide ((600 : Int) < s.size) = false := decide_eq_false (by omega)
  have HGA := Lib.hid GA
  have HT := Lib.hid hT
  have HA := Lib.hid hA
  have HF := Lib.hid hf
  have HZ := Lib.hid hz
  clear GA hT hA hf hz
  go_enter Tryd.func7/-f-/, Tryd.ntmps7/-f-/
  go_wp2_with (go_at_call 16/-f-/; (with_reducible refine (HGA.out _ HA.out).mono ?_); rintro e w1 ⟨rfl, rfl⟩)
  go_loopw [5, 6] (fun v i wr => ∃ k : Nat, k ≤ vs.length ∧ i = .int .i64 k ∧ Below w.heap.size w wr ∧ v = .string ⟨(lineOf (vs.take k)).toArray⟩) (fun _ i _ => vs.length - (intOf i).toNat)
  case atStart => exact ⟨0, Nat.zero_le _, rfl, Below.refl _ _, rfl⟩
  case round =>
    obtain ⟨k, hk, rfl, hbl, rfl⟩ := hrel
    have hsz := hbl.size
    have HBL := Lib.hid hbl
    by_cases hlt : k < vs.length
    · obtain ⟨b1, o1, rfl, hb1, hz1, x0, x1, x2⟩ := HA.out.at_ hbl k hlt
      have HTK := Lib.hid (line_take vs k hlt)
      have hxs : (vs.getD k default).s.size ≤ 300 := HZ.out _ (getD_mem vs k hlt)
      have PV := Lib.hid (fun W (h : PT W) => printv_any (vs.getD k default) W h (HF.out _ (getD_mem vs k hlt)) (by omega))
      have RG := Lib.hid (fun W => refright_any (vs.getD k default).k (vs.getD k default).n (vs.getD k default).s W (by omega))
      have HFX := Lib.hid (HF.out _ (getD_mem vs k hlt))
      have l1 := line_len vs HF.out HZ.out k hk
      have l2 := printed_len (vs.getD k default) HFX.out hxs
      generalize vs.getD k default = x at *
      generalize lineOf (vs.take k) = L at *
      have hll : L.length ≤ 1002000 := by omega
      have H2s : (⟨#[44, 32]⟩ : ByteArray).size = 2 := rfl
      clear l1 hbl
      by_cases hr : rightB x.k x.n x.s = true
      · have RP := Lib.hid (fun W => refprint2_any x W HFX.out hr)
        have hpe : printed x = printOf x := by unfold printed; rw [if_pos hr]
        rw [hpe] at PV HTK l2
        rw [hr] at RG
        clear hr hpe
        generalize printOf x = P at *
        by_cases h0 : k = 0
        · have hkp : ¬ (0 : Int) < k := by omega
          have HT2 := Lib.hid (HTK.out.trans (by rw [if_pos h0, List.nil_append] : _ = L ++ P))
          clear HTK h0
          go_wp2_with (first
            | (go_at_call 32/-f-/; (with_reducible refine (RG.out _).mono ?_); rintro e w2 ⟨rfl, hb⟩; have d0 := (hb.cell (p := ⟨b1, o1 + k * 3, none⟩) hz1).trans x0; have d1 := (hb.cell (p := ⟨b1, o1 + k * 3 + 1, none⟩) hz1).trans x1; have d2 := (hb.cell (p := ⟨b1, o1 + k * 3 + 2, none⟩) hz1).trans x2; have hy2 : b1 < w2.heap.size := Nat.lt_of_lt_of_le hz1 hb.size; have H2 := Lib.hid (HBL.out.trans (hb.mono HBL.out.size)); clear hb)
            | (go_at_call 33/-f-/; (with_reducible refine (RP.out _).mono ?_); rintro e w3 ⟨rfl, hb⟩; have e0 := (hb.cell (p := ⟨b1, o1 + k * 3, none⟩) hy2).trans d0; have e1 := (hb.cell (p := ⟨b1, o1 + k * 3 + 1, none⟩) hy2).trans d1; have e2 := (hb.cell (p := ⟨b1, o1 + k * 3 + 2, none⟩) hy2).trans d2; have H3 := Lib.hid (H2.out.trans (hb.mono H2.out.size)); clear hb)
            | (go_at_call 34/-f-/; (with_reducible refine (PV.out _ (HT.out.below H3.out (Nat.le_refl _))).mono ?_); rintro e w4 ⟨rfl, hb⟩; have H4 := Lib.hid (H3.out.trans (hb.mono H3.out.size)); clear hb))
          go_roundw
          case rel => exact ⟨k + 1, hlt, by go_num, H4.out, by rw [HT2.out]; exact congrArg Value.string (app_mk L P)⟩
          case measure => simp [intOf]; omega
        · have hkp : (0 : Int) < k := by omega
          have HT2 := Lib.hid (HTK.out.trans (by rw [if_neg h0] : _ = L ++ ([44, 32] ++ P)))
          clear HTK h0
          go_wp2_with (first
            | (go_at_call 32/-f-/; (with_reducible refine (RG.out _).mono ?_); rintro e w2 ⟨rfl, hb⟩; have d0 := (hb.cell (p := ⟨b1, o1 + k * 3, none⟩) hz1).trans x0; have d1 := (hb.cell (p := ⟨b1, o1 + k * 3 + 1, none⟩) hz1).trans x1; have d2 := (hb.cell (p := ⟨b1, o1 + k * 3 + 2, none⟩) hz1).trans x2; have hy2 : b1 < w2.heap.size := Nat.lt_of_lt_of_le hz1 hb.size; have H2 := Lib.hid (HBL.out.trans (hb.mono HBL.out.size)); clear hb)
            | (go_at_call 33/-f-/; (with_reducible refine (RP.out _).mono ?_); rintro e w3 ⟨rfl, hb⟩; have e0 := (hb.cell (p := ⟨b1, o1 + k * 3, none⟩) hy2).trans d0; have e1 := (hb.cell (p := ⟨b1, o1 + k * 3 + 1, none⟩) hy2).trans d1; have e2 := (hb.cell (p := ⟨b1, o1 + k * 3 + 2, none⟩) hy2).trans d2; have H3 := Lib.hid (H2.out.trans (hb.mono H2.out.size)); clear hb)
            | (go_at_call 34/-f-/; (with_reducible refine (PV.out _ (HT.out.below H3.out (Nat.le_refl _))).mono ?_); rintro e w4 ⟨rfl, hb⟩; have H4 := Lib.hid (H3.out.trans (hb.mono H3.out.size)); clear hb))
          go_roundw
          case rel =>
            refine ⟨k + 1, hlt, by go_num, H4.out, ?_⟩
            rw [HT2.out, ← List.append_assoc]
            exact congrArg Value.string ((congrArg (· ++ (⟨P.toArray⟩ : ByteArray)) (app_mk L [44, 32])).trans (app_mk (L ++ [44, 32]) P))
          case measure => simp [intOf]; omega
      · have hpe : printed x = [] := by unfold printed; rw [if_neg hr]
        rw [hpe] at PV HTK
        rw [Bool.eq_false_iff.2 hr] at RG
        clear hr hpe
        by_cases h0 : k = 0
        · have hkp : ¬ (0 : Int) < k := by omega
          have HT2 := Lib.hid (HTK.out.trans (by rw [if_pos h0]; simp : _ = L))
          clear HTK h0
          go_wp2_with (first
            | (go_at_call 32/-f-/; (with_reducible refine (RG.out _).mono ?_); rintro e w2 ⟨rfl, hb⟩; have d0 := (hb.cell (p := ⟨b1, o1 + k * 3, none⟩) hz1).trans x0; have d1 := (hb.cell (p := ⟨b1, o1 + k * 3 + 1, none⟩) hz1).trans x1; have d2 := (hb.cell (p := ⟨b1, o1 + k * 3 + 2, none⟩) hz1).trans x2; have hy2 : b1 < w2.heap.size := Nat.lt_of_lt_of_le hz1 hb.size; have H2 := Lib.hid (HBL.out.trans (hb.mono HBL.out.size)); clear hb)
            | (go_at_call 34/-f-/; (with_reducible refine (PV.out _ (HT.out.below H2.out (Nat.le_refl _))).mono ?_); rintro e w4 ⟨rfl, hb⟩; have H4 := Lib.hid (H2.out.trans (hb.mono H2.out.size)); clear hb))
          go_roundw
          case rel => exact ⟨k + 1, hlt, by go_num, H4.out, by rw [HT2.out]; exact congrArg Value.string ((app_mk L []).trans (by rw [List.append_nil]))⟩
          case measure => simp [intOf]; omega
        · have hkp : (0 : Int) < k := by omega
          have HT2 := Lib.hid (HTK.out.trans (by rw [if_neg h0]; simp : _ = L ++ [44, 32]))
          clear HTK h0
          go_wp2_with (first
            | (go_at_call 32/-f-/; (with_reducible refine (RG.out _).mono ?_); rintro e w2 ⟨rfl, hb⟩; have d0 := (hb.cell (p := ⟨b1, o1 + k * 3, none⟩) hz1).trans x0; have d1 := (hb.cell (p := ⟨b1, o1 + k * 3 + 1, none⟩) hz1).trans x1; have d2 := (hb.cell (p := ⟨b1, o1 + k * 3 + 2, none⟩) hz1).trans x2; have hy2 : b1 < w2.heap.size := Nat.lt_of_lt_of_le hz1 hb.size; have H2 := Lib.hid (HBL.out.trans (hb.mono HBL.out.size)); clear hb)
            | (go_at_call 34/-f-/; (with_reducible refine (PV.out _ (HT.out.below H2.out (Nat.le_refl _))).mono ?_); rintro e w4 ⟨rfl, hb⟩; have H4 := Lib.hid (H2.out.trans (hb.mono H2.out.size)); clear hb))
          go_roundw
          case rel => exact ⟨k + 1, hlt, by go_num, H4.out, by rw [HT2.out]; exact congrArg Value.string ((congrArg (· ++ (⟨#[]⟩ : ByteArray)) (app_mk L [44, 32])).trans ((app_mk (L ++ [44, 32]) []).trans (by rw [List.append_nil])))⟩
          case measure => simp [intOf]; omega
    · obtain rfl : k = vs.length := by omega
      rw [List.take_length]
      have VP := Lib.hid (fun W (h : PT W) => vparse_any s W h (by omega))
      have RPa := Lib.hid (fun W => refparse2_any s W (by omega))
      rw [parsedR_eq] at RPa
      have LN := Lib.hid (fun W (h : PT W) (h' : Vals W A vs) => line_any A vs.length c vs W h h' rfl HF.out (by omega) HZ.out)
      generalize lineOf vs = L at *
      have hgv := guardVal
      clear hbl
      cases hb : parsedB s with
      | true =>
        rw [hb] at VP RPa
        simp only [if_true] at VP RPa
        generalize readV s = v at *
        have E1 : ∀ W, (Op.equalIn 10000 35 (.agg #[.int .i64 v.k, .int .i64 v.n, .string v.s]) (.agg #[.int .i64 v.k, .int .i64 v.n, .string v.s])).run Tryd.prog W = .ok true W := fun W => by rw [eqVal]; simp
        clear hb
        simp only [parseVal] at RPa
        go_wp2_with (first
          | (go_at_call 35/-f-/; (with_reducible refine (VP.out _ (HT.out.below HBL.out (Nat.le_refl _))).mono ?_); rintro e w1 ⟨rfl, hb⟩; have H1 := Lib.hid (HBL.out.trans (hb.mono HBL.out.size)); have hs1 := H1.out.size; clear hb)
          | (go_at_call 36/-f-/; (with_reducible refine (RPa.out _).mono ?_); rintro e w2 ⟨rfl, hb⟩; have B1 := Lib.hid ((Blk.new w1 35 #[.int .i64 v.k, .int .i64 v.n, .string v.s]).below hb (by simp)); have H2 := Lib.hid ((H1.out.alloc H1.out.size (.cells #[.int .i64 v.k, .int .i64 v.n, .string v.s] 35)).trans (hb.mono (by simp; omega))); have hs2 := H2.out.size; have hlt1 := B1.out.lt; have HA2 := Lib.hid (H2.out.alloc hs2 (.cells #[.int .i64 v.k, .int .i64 v.n, .string v.s] 35)); clear hb)
          | (go_at_call 37/-f-/; (with_reducible refine (LN.out _ (HT.out.below HA2.out (Nat.le_refl _)) (HA.out.keep HA2.out)).mono ?_); rintro e w3 ⟨rfl, hb⟩; have C1 := Lib.hid ((B1.out.alloc (.cells #[.int .i64 v.k, .int .i64 v.n, .string v.s] 35)).below hb (by simp; omega)); have C2 := Lib.hid ((Blk.new w2 35 #[.int .i64 v.k, .int .i64 v.n, .string v.s]).below hb (by simp)); have p0 := C1.out.cell 0; have p1 := C1.out.cell 1; have p2 := C1.out.cell 2; have q0 := C2.out.cell 0; have q1 := C2.out.cell 1; have q2 := C2.out.cell 2; have z1 := C1.out.lt; have z2 := C2.out.lt; simp at p0 p1 p2 q0 q1 q2; have H3 := Lib.hid (HA2.out.trans (hb.mono HA2.out.size)); clear hb)
          | (go_at_call 17/-f-/; (with_reducible refine (awake2_any _ (HT.out.below H3.out (Nat.le_refl _))).mono ?_); rintro e w4 ⟨rfl, hb⟩; have H4 := Lib.hid (H3.out.trans (hb.mono H3.out.size)); clear hb))
        go_ret
        exact ⟨rfl, H4.out⟩
      | false =>
        rw [hb] at VP RPa
        simp only [Bool.false_eq_true, if_false] at VP RPa
        have E1 : ∀ W, (Op.equalIn 10000 35 (.agg #[.int .i64 0, .int .i64 0, .string ⟨#[]⟩]) (.agg #[.int .i64 0, .int .i64 0, .string ⟨#[]⟩])).run Tryd.prog W = .ok true W := fun W => by rw [eqVal]; simp
        clear hb
        simp only [parseVal] at RPa
        go_wp2_with (first
          | (go_at_call 35/-f-/; (with_reducible refine (VP.out _ (HT.out.below HBL.out (Nat.le_refl _))).mono ?_); rintro e w1 ⟨rfl, hb⟩; have H1 := Lib.hid (HBL.out.trans (hb.mono HBL.out.size)); have hs1 := H1.out.size; clear hb)
          | (go_at_call 36/-f-/; (with_reducible refine (RPa.out _).mono ?_); rintro e w2 ⟨rfl, hb⟩; have B1 := Lib.hid ((Blk.new w1 35 #[.int .i64 0, .int .i64 0, .string ⟨#[]⟩]).below hb (by simp)); have H2 := Lib.hid ((H1.out.alloc H1.out.size (.cells #[.int .i64 0, .int .i64 0, .string ⟨#[]⟩] 35)).trans (hb.mono (by simp; omega))); have hs2 := H2.out.size; have hlt1 := B1.out.lt; have HA2 := Lib.hid (H2.out.alloc hs2 (.cells #[.int .i64 0, .int .i64 0, .string ⟨#[]⟩] 35)); clear hb)
          | (go_at_call 37/-f-/; (with_reducible refine (LN.out _ (HT.out.below HA2.out (Nat.le_refl _)) (HA.out.keep HA2.out)).mono ?_); rintro e w3 ⟨rfl, hb⟩; have C1 := Lib.hid ((B1.out.alloc (.cells #[.int .i64 0, .int .i64 0, .string ⟨#[]⟩] 35)).below hb (by simp; omega)); have C2 := Lib.hid ((Blk.new w2 35 #[.int .i64 0, .int .i64 0, .string ⟨#[]⟩]).below hb (by simp)); have p0 := C1.out.cell 0; have p1 := C1.out.cell 1; have p2 := C1.out.cell 2; have q0 := C2.out.cell 0; have q1 := C2.out.cell 1; have q2 := C2.out.cell 2; have z1 := C1.out.lt; have z2 := C2.out.lt; simp at p0 p1 p2 q0 q1 q2; have H3 := Lib.hid (HA2.out.trans (hb.mono HA2.out.size)); clear hb)
          | (go_at_call 17/-f-/; (with_reducible refine (awake2_any _ (HT.out.below H3.out (Nat.le_refl _))).mono ?_); rintro e w4 ⟨rfl, hb⟩; have H4 := Lib.hid (H3.out.trans (hb.mono H3.out.size)); clear hb))
        go_ret
        exact ⟨rfl, H4.out⟩
set_option maxRecDepth 100000 in
set_option maxHeartbeats 8000000 in
theorem walk (A : Option Addr) (n c : Nat) (vs : List Val) (s : ByteArray) (w : World) (hT : PT w) (hA : Vals w A vs) (hn : vs.length = n) (hf : ∀ x ∈ vs, FitV x)
    (hs1 : n ≤ 9223372036854775807) (hs2 : s.size ≤ 9223372036854775807) :
    Calls Tryd.prog 7/-f-/ #[.slice A n c, .string s] w fun e w' => e = .returned (.bool true) ∧ Below w.heap.size w w' := by
  subst hn
  have GA := Lib.hid (fun W (h : Vals W A vs) => refgreat_any A vs.length c vs W h rfl hf hs1)
  have CORE := fun (h1 : greatB vs = false) (h2 : s.size ≤ 600) => by
    have G1 := GA.out
    rw [h1] at G1
    exact core A c vs s w hT hA hf (great_no h1).1 (great_no h1).2 h2 G1
  have HC := Lib.hid CORE
  have HT := Lib.hid hT
  have HA := Lib.hid hA
  clear CORE hT hA hf
  generalize greatB vs = g1 at *
  cases g1 with
  | true =>
    clear HC
    go_enter Tryd.func7/-f-/, Tryd.ntmps7/-f-/
    go_wp2_with (first
      | (go_at_call 16/-f-/; (with_reducible refine (GA.out _ HA.out).mono ?_); rintro e w1 ⟨rfl, rfl⟩)
      | (go_at_call 17/-f-/; (with_reducible refine (awake2_any _ HT.out).mono ?_); rintro e w2 ⟨rfl, hb2⟩))
    go_ret
    exact ⟨rfl, hb2⟩
  | false =>
    by_cases hsz : s.size ≤ 600
    · exact HC.out rfl hsz
    · have hsb : decide ((600 : Int) < s.size) = true := decide_eq_true (by omega)
      clear HC
      go_enter Tryd.func7/-f-/, Tryd.ntmps7/-f-/
      go_wp2_with (first
        | (go_at_call 16/-f-/; (with_reducible refine (GA.out _ HA.out).mono ?_); rintro e w1 ⟨rfl, rfl⟩)
        | (go_at_call 17/-f-/; (with_reducible refine (awake2_any _ HT.out).mono ?_); rintro e w2 ⟨rfl, hb2⟩))
      go_ret
      exact ⟨rfl, hb2⟩
set_option maxRecDepth 100000 in
theorem contract (H : Type) (enc : TypeId × Value → H) (W : World) (base : Nat) (args : Array Value) (ds gs : List (DataW H)) (before : List MemPlace)
    (hval : ∀ (j : Nat) t v, Tryd.f7.params[j]? = some t → args[j]? = some v → Value.okWide Tryd.prog W .any base t v)
    (hW : DataW.Whole enc Tryd.prog Tryd.f7.params.toList Rows.valueTextsSpec.vars false W args.toList ds gs before) (hL : laidMetH Tryd.prog Rows.valueTextsRow.laid W) (hS : W.ShapedOpen Tryd.prog) :
    Calls Tryd.prog 7 args W fun e W' => ∃ v, e = .returned v ∧ Rows.valueTextsSpec.post enc Tryd.prog Tryd.f7 false true false false W args v W' := by
  have hW' := hW
  have tb := table hL hS
  obtain ⟨p, q, hA0, hV, rfl, hfz, hnd⟩ := hW
  have hA : DataW.TrodAll enc Tryd.prog W 0 (fun _ => true) true Tryd.f7.params.toList args.toList ds p := hA0
  rw [Tryd.params7] at hA hval
  obtain ⟨v0, vs0, d0, ds0, p0, q0, hargs, rfl, rfl, h0, r0⟩ := trodAll_cons hA
  obtain ⟨v1, vs1, d1, ds1, p1, q1, rfl, rfl, rfl, h1, r1⟩ := trodAll_cons r0
  obtain ⟨rfl, rfl, rfl⟩ := trodAll_nil r1
  obtain rfl : args = #[v0, v1] := by cases args; simp_all
  obtain ⟨rfl, rfl⟩ := trodVars_none hV
  obtain ⟨a0, len0, cap0, rfl⟩ := okWide_slice Tryd.underlying31 (hval 0 31 v0 rfl rfl)
  have k0 := h0
  have lt0 : ∀ x ∈ p0, x.block < W.heap.size := by obtain ⟨m, hm⟩ := k0; exact DataW.trod_lt m _ _ _ hm
  obtain ⟨fuel0, hf0⟩ := h0
  have hg0 : DataW.trod enc Tryd.prog W 0 (fun _ => true) true fuel0 31 [.slice a0 len0 cap0] = some (d0, p0) := by simpa [Value.cells] using hf0
  obtain ⟨lm0, lc0, l0, hn0, kA0, ff0⟩ := open_vals hg0
  obtain ⟨s1, rfl, rfl, rfl, z1⟩ := Go.ChangeMaps.open_string Tryd.underlying9 (hval 1 9 v1 rfl rfl) h1
  clear hA0
  refine (walk a0 len0 cap0 l0 s1 W tb kA0 hn0 ff0 lm0 z1).mono fun e W' ⟨he, bel⟩ => ?_
  subst he
  exact ⟨_, rfl, _, _, _, [], _, [], hW', trodAll_mk1 (shut_bool Tryd.underlying4 _), (trodAll_cons_mk (Below.trod laidOut (by kernel_rfl) (of_decide_eq_true (by kernel_rfl)) k0 bel lt0) (trodAll_cons_mk (Go.ChangeMaps.shut_string Tryd.underlying9 z1) trodAll_mk0)), rfl, bel.frame _, fun h => by cases h⟩
theorem laid_met (os : Os) : laidMet Tryd.prog Rows.valueTextsRow.laid ((laidWorld os).forCall (fun _ _ => 0) ⟨#[], #[.slice none 0 0, .string ⟨#[]⟩], []⟩).memory :=
  laidMet_of_run' 8 (by kernel_rfl) (by kernel_rfl)
theorem reads (os : Os) {H : Type} (enc : TypeId × Value → H) : ∃ places, DataW.whole enc Tryd.prog ((laidWorld os).forCall (fun _ _ => 0) ⟨#[], #[.slice none 0 0, .string ⟨#[]⟩], []⟩).memory Tryd.f7.params.toList Rows.valueTextsSpec.vars false (#[.slice none 0 0, .string ⟨#[]⟩] : Array Value).toList 8 = some ([.nil, .lit (.string [])], [], places) :=
  ⟨[], by kernel_rfl⟩
set_option maxRecDepth 100000 in
theorem lifted (os : Os) (started : os.Started) (H : Type) (enc : TypeId × Value → H) (Fi : Stop.Interp) :
    ReturnsInHanded {} Tryd.checked os 7 .any ((OpenSpec.ofChange Rows.valueTextsSpec).preRow enc Tryd.prog Tryd.f7 Rows.valueTextsRow.domain false Rows.valueTextsRow.laid) (((OpenSpec.ofChange Rows.valueTextsSpec).at Fi).post enc Tryd.prog Tryd.f7 false true false false) := by
  obtain ⟨places, hx⟩ := reads os enc
  refine returnsInHanded_of_row (C := Tryd.checked) (s := OpenSpec.ofChange Rows.valueTextsSpec) own started (by kernel_rfl) Tryd.func7
    (witness_row_at (enc := enc) (C := Tryd.checked) false (laidWorld os) #[.slice none 0 0, .string ⟨#[]⟩] rfl (by kernel_rfl) (by kernel_rfl) (by kernel_rfl)
      (OpenSpec.preRow_of_cond 8 hx (by kernel_rfl) (fun k hk => by cases hk) (by kernel_rfl) (laid_met os))) ?_
  intro W base args ds gs before hval hW _ _ _ hL hS _
  exact contract H enc W base args ds gs before hval hW hL hS
theorem said : Rows.ValueTextsSaid :=
  OpenClaim.holds_of_cond 7 Tryd.f7 rfl rfl rfl rfl rfl rfl rfl ⟨rfl, rfl, rfl, rfl, rfl⟩ rfl rfl rfl rfl rfl (by kernel_rfl) Tryd.func7 (by kernel_rfl)
    (of_decide_eq_true (by kernel_rfl)) (by unfold Func.isWrapper; first | (rw [if_pos (by decide +kernel)]; kernel_rfl) | (rw [if_neg (by decide +kernel)]; exact ⟨rfl, rfl⟩))
    (fun os started H enc _ Fi => by rw [OpenClaim.pre_eq_preRow]; exact lifted os started H enc Fi)
theorem plain (f : FuncId) (fn : Func) (hf : Tryd.pinned.checked.prog.funcNamed "afflux/affluxlaw02.ValueTexts" = some f) (hfn : Tryd.pinned.checked.prog.funcs[f]? = some fn) :
    false = Tryd.pinned.checked.prog.looks [] ∧ ∀ (j : Nat) t, fn.params[j]? = some t → Tryd.pinned.checked.prog.wantsStandIn t = false := by
  obtain rfl : f = 7 := Option.some.inj ((show Tryd.prog.funcNamed "afflux/affluxlaw02.ValueTexts" = some 7 by kernel_rfl).symm.trans hf) |>.symm
  obtain rfl : fn = Tryd.f7 := (Option.some.inj (Tryd.func7.symm.trans hfn)).symm
  refine ⟨by kernel_rfl, fun j t ht => ?_⟩
  rw [Tryd.params7] at ht
  have hm := Array.mem_of_getElem? ht
  simp only [List.mem_toArray, List.mem_cons, List.not_mem_nil, or_false] at hm
  rcases hm with rfl | rfl
  · exact (show Tryd.prog.wantsStandIn 31 = false by kernel_rfl)
  · exact (show Tryd.prog.wantsStandIn 9 = false by kernel_rfl)
theorem proved : Rows.ValueTextsCardSaid :=
  Claim7.holds_tied_plain_at .later [] _ _ _ _ said (fun _ h => by cases h) (by kernel_rfl) (fun _ h => by cases h) valueTexts_row_tie rfl ⟨rfl, rfl⟩ (by kernel_rfl) rfl plain (by kernel_rfl)

end Go.Proofs.YtabdmhlnaahdlaaDoor.ValueTexts

/- ValueStands: keys stand in the order of their rows; the row of a key is that row. Condition: the tables of Go's library that the row lists hold what the library's text lays in them. -/
import Derived.Test.YtabdmhlnaahdlaaDoorOpv
import Derived.Test.YtabdmhlnaahdlaaDoorOrd
import Derived.Test.YtabdmhlnaahdlaaDoorUks
import Derived.Deep.CutBlock
import Derived.Deep.DeepCutAuto
import Derived.Deep.RegionHeld3
import Derived.Laws.DeepStrings4
namespace Go.Proofs.YtabdmhlnaahdlaaDoor.ValueStands
open Go.ChangeShapes Go.WideShapes Go.ChangeAt Go.RowKit
set_option linter.unusedVariables false
theorem both {vs : List Val} (hf : ∀ x ∈ vs, FitV x) (hr : rall vs = true) : ∀ x ∈ vs, FitV x ∧ rightB x.k x.n x.s = true := fun x hx => ⟨hf x hx, by
  unfold rall at hr
  exact List.all_eq_true.1 hr x hx⟩
theorem vals_take {w : World} {B : Option Addr} {vs : List Val} (h : Vals w B vs) (k : Nat) : Vals w B (vs.take k) := by
  rcases h with rfl | ⟨b, off, h1, h2, h3⟩
  · exact .inl (by simp)
  · refine .inr ⟨b, off, h1, h2, fun i hi => ?_⟩
    rw [List.length_take] at hi
    have e : (vs.take k).getD i default = vs.getD i default := by
      rw [List.getD_eq_getElem?_getD, List.getD_eq_getElem?_getD, List.getElem?_take, if_pos (by omega)]
    rw [e]
    exact h3 i (by omega)
theorem below_drewN {N : Nat} {w w' : World} (h : Below N w w') (k : Nat) : Below N w (w'.drewN k) := by
  induction k generalizing w' with
  | zero => exact h
  | succ k ih => first | exact ih h.drew | exact (ih h).drew
/-- What the laws say of the two keys. -/
structure Ways (xs ys : List Val) (x y : ByteArray) (cc : Int) : Prop where
  lss : Op.bytesLess x.toList y.toList = decide (cc < 0)
  eql : (x.toList == y.toList) = decide (cc = 0)
  rng : cc = -1 ∨ cc = 0 ∨ cc = 1
  un : unkey x.data.toList = some xs
  beg : (x.size ≤ y.size ∧ y.extract 0 x.size = x) ↔ (xs.length ≤ ys.length ∧ xs = ys.take xs.length)
theorem cmp_zero_eq : ∀ x y : List UInt8, Lib.compareBytes x y = 0 → x = y
  | [], [], _ => rfl
  | [], _ :: _, h => by simp [Lib.compareBytes] at h
  | _ :: _, [], h => by simp [Lib.compareBytes] at h
  | a :: x, b :: y, h => by
    rw [cmp_cons] at h
    by_cases h1 : a < b
    · rw [if_pos h1] at h; omega
    · by_cases h2 : b < a
      · rw [if_neg h1, if_pos h2] at h; omega
      · rw [if_neg h1, if_neg h2] at h
        have h3 : a = b := UInt8.le_antisymm (UInt8.not_lt.1 h2) (UInt8.not_lt.1 h1)
        rw [h3, cmp_zero_eq x y h]
theorem cmp_zero (x y : List UInt8) : Lib.compareBytes x y = 0 ↔ x = y := by
  refine ⟨cmp_zero_eq x y, ?_⟩
  rintro rfl
  have h := cmp_anti x x
  omega
theorem ways (xs ys : List Val) (hx : ∀ x ∈ xs, FitV x ∧ rightB x.k x.n x.s = true) (hy : ∀ x ∈ ys, FitV x ∧ rightB x.k x.n x.s = true) : Ways xs ys ⟨(keysOf xs).toArray⟩ ⟨(keysOf ys).toArray⟩ (valRows xs ys) where
  lss := by
    rw [ByteArray.toList_eq, ByteArray.toList_eq, less_cmp, ← cmp_keys xs ys hx hy]
  eql := by
    rw [ByteArray.toList_eq, ByteArray.toList_eq, ← cmp_keys xs ys hx hy]
    show (keysOf xs == keysOf ys) = _
    rw [Bool.eq_iff_iff, beq_iff_eq, decide_eq_true_iff, cmp_zero]
  rng := by rw [← cmp_keys xs ys hx hy]; exact cmp_range _ _
  un := unkey_keys xs (fun x h => (hx x h).1) (fun x h => (hx x h).2)
  beg := by
    rw [← prefix_iff xs ys hx hy]
    have e : ((⟨(keysOf ys).toArray⟩ : ByteArray).extract 0 (keysOf xs).length = ⟨(keysOf xs).toArray⟩) ↔ ((keysOf ys).take (keysOf xs).length = keysOf xs) := by
      have e2 : ((⟨(keysOf ys).toArray⟩ : ByteArray).extract 0 (keysOf xs).length).data.toList = (keysOf ys).take (keysOf xs).length := by
        rw [ByteArray.data_extract, Array.toList_extract]
        simp [List.extract]
      rw [← e2]
      constructor
      · intro h; rw [h]
      · intro h; exact ByteArray.ext (Array.toList_inj.1 h)
    exact and_congr Iff.rfl e
set_option maxRecDepth 100000 in
set_option maxHeartbeats 8000000 in
theorem core (A B : Option Addr) (c d : Nat) (xs ys : List Val) (x y : ByteArray) (cc : Int) (w : World) (hT : PT w) (hA : Vals w A xs) (hB : Vals w B ys) (hc : xs.length ≤ c) (hd : ys.length ≤ d) (hn : xs.length ≤ 30) (hm : ys.length ≤ 30) (hx : x.size ≤ 100000)
    (hW : Ways xs ys x y cc)
    (GA : ∀ W, Vals W A xs → Calls Tryd.prog 16/-f-/ #[.slice A xs.length c] W fun e w' => e = .returned (.bool false) ∧ W = w')
    (GB : ∀ W, Vals W B ys → Calls Tryd.prog 16/-f-/ #[.slice B ys.length d] W fun e w' => e = .returned (.bool false) ∧ W = w')
    (RA : ∀ W, Vals W A xs → Calls Tryd.prog 21/-f-/ #[.slice A xs.length c] W fun e w' => e = .returned (.bool true) ∧ Below W.heap.size W w')
    (RB : ∀ W, Vals W B ys → Calls Tryd.prog 21/-f-/ #[.slice B ys.length d] W fun e w' => e = .returned (.bool true) ∧ Below W.heap.size W w')
    (KA : ∀ W, Vals W A xs → Calls Tryd.prog 30/-f-/ #[.slice A xs.length c] W fun e w' => e = .returned (.string x) ∧ Below W.heap.size W w')
    (KB : ∀ W, Vals W B ys → Calls Tryd.prog 30/-f-/ #[.slice B ys.length d] W fun e w' => e = .returned (.string y) ∧ Below W.heap.size W w')
    (RW : ∀ W, Vals W A xs → Vals W B ys → Calls Tryd.prog 22/-f-/ #[.slice A xs.length c, .slice B ys.length d] W fun e w' => e = .returned (.int .i64 cc) ∧ Below W.heap.size W w') :
    Calls Tryd.prog 9/-f-/ #[.slice A xs.length c, .slice B ys.length d] w fun e w' => e = .returned (.bool true) ∧ Below w.heap.size w w' := by
  have UK0 := fun W => unkey_any x W hx
  rw [hW.un] at UK0
  simp only [Option.getD_some, Option.isSome_some] at UK0
  have UK := Lib.hid UK0
  clear UK0
  have SM := Lib.hid (fun (W : World) (A' : Option Addr) (c' : Nat) (h : Vals W A' xs) (h' : Vals W A xs) => refsame_any A' A xs.length c' xs.length c xs xs W h h' rfl rfl (by omega) (by omega))
  rw [decide_eq_true (rfl : xs = xs)] at SM
  have SP := Lib.hid (fun (W : World) (d' : Nat) (hle : xs.length ≤ ys.length) (h : Vals W A xs) (h' : Vals W B ys) => refsame_any A B xs.length c xs.length d' xs (ys.take xs.length) W h (vals_take h' _) rfl (by rw [List.length_take]; omega) (by omega) (by omega))
  have HGA := Lib.hid GA
  have HGB := Lib.hid GB
  have HRA := Lib.hid RA
  have HRB := Lib.hid RB
  have HKA := Lib.hid KA
  have HKB := Lib.hid KB
  have HRW := Lib.hid RW
  have HT := Lib.hid hT
  have HA := Lib.hid hA
  have HB := Lib.hid hB
  obtain ⟨bb, hbb⟩ : ∃ bb : Bool, bb = decide (x.size ≤ y.size ∧ y.extract 0 x.size = x) := ⟨_, rfl⟩
  have HB2 := Lib.hid (show bb = decide (xs.length ≤ ys.length ∧ xs = ys.take xs.length) from hbb.trans (decide_eq_decide.2 hW.beg))
  have HB1 := Lib.hid hbb
  clear hbb
  have hl := hW.lss
  have he := hW.eql
  have hr := hW.rng
  clear GA GB RA RB KA KB RW hT hA hB hW
  rcases hr with rfl | rfl | rfl
  all_goals
    simp only [show ((-1 : Int) < 0) = True from by simp, show ((0 : Int) < 0) = False from by simp, show ((1 : Int) < 0) = False from by simp, show ((-1 : Int) = 0) = False from by simp, show ((0 : Int) = 0) = True from by simp, show ((1 : Int) = 0) = False from by simp, decide_true, decide_false] at hl he
    go_enter Tryd.func9/-f-/, Tryd.ntmps9/-f-/
    go_upto_region 10 with (first
      | (go_at_call 16/-f-/; (with_reducible refine (HGA.out _ HA.out).mono ?_); rintro e w1 ⟨rfl, rfl⟩)
      | (go_at_call 16/-f-/; (with_reducible refine (HGB.out _ HB.out).mono ?_); rintro e w1 ⟨rfl, rfl⟩)
      | (go_at_call 21/-f-/; (with_reducible refine (HRA.out _ HA.out).mono ?_); rintro e w1 ⟨rfl, hb⟩; have H1 := Lib.hid hb; clear hb)
      | (go_at_call 21/-f-/; (with_reducible refine (HRB.out _ (HB.out.keep H1.out)).mono ?_); rintro e w2 ⟨rfl, hb⟩; have H2 := Lib.hid (H1.out.trans (hb.mono H1.out.size)); clear hb)
      | (go_at_call 30/-f-/; (with_reducible refine (HKA.out _ (HA.out.keep H2.out)).mono ?_); rintro e w3 ⟨rfl, hb⟩; have H3 := Lib.hid (H2.out.trans (hb.mono H2.out.size)); clear hb)
      | (go_at_call 30/-f-/; (with_reducible refine (HKB.out _ (HB.out.keep H3.out)).mono ?_); rintro e w4 ⟨rfl, hb⟩; have H4 := Lib.hid (H3.out.trans (hb.mono H3.out.size)); clear hb)
      | (go_at_call 28/-f-/; (with_reducible refine (UK.out _).mono ?_); rintro e w5 ⟨⟨A', c', rfl, hV, hc'⟩, hb⟩; have H5 := Lib.hid (H4.out.trans (hb.mono H4.out.size)); have HV := Lib.hid hV; clear hb hV))
    go_upto_region 12 with (first
      | (go_at_call 22/-f-/; (with_reducible refine (HRW.out _ (HA.out.keep H5.out) (HB.out.keep H5.out)).mono ?_); rintro e w6 ⟨rfl, hb⟩; have HV6 := Lib.hid (Vals.keep HV.out hb); have H6 := Lib.hid (H5.out.trans (hb.mono H5.out.size)); clear hb)
      | (go_at_call 31/-f-/; (with_reducible refine (SM.out _ A' c' HV6.out (HA.out.keep H6.out)).mono ?_); rintro e w7 ⟨rfl, kk, rfl⟩))
    go_cut [10] (fun v wx => v = .bool bb ∧ Below w.heap.size w wx)
    case first =>
      have HB7 := Lib.hid (below_drewN H6.out kk)
      by_cases hle : x.size ≤ y.size
      · by_cases hxy : y.extract 0 x.size = x
        · have HF := Lib.hid (show bb = true from by rw [HB1.out]; exact decide_eq_true ⟨hle, hxy⟩)
          have h1 : ((y.extract 0 x.size).toList == x.toList) = true := by rw [hxy]; exact beq_self_eq_true _
          clear hxy
          go_wp2
          go_meet
          exact ⟨by rw [HF.out], HB7.out⟩
        · have HF := Lib.hid (show bb = false from by rw [HB1.out]; exact decide_eq_false fun h => hxy h.2)
          have h1 : ((y.extract 0 x.size).toList == x.toList) = false := by
            rw [ByteArray.toList_eq, ByteArray.toList_eq]
            exact beq_eq_false_iff_ne.2 fun h => hxy (ByteArray.ext (Array.toList_inj.1 h))
          clear hxy
          go_wp2
          go_meet
          exact ⟨by rw [HF.out], HB7.out⟩
      · have HF := Lib.hid (show bb = false from by rw [HB1.out]; exact decide_eq_false fun h => hle h.1)
        go_wp2
        go_meet
        exact ⟨by rw [HF.out], HB7.out⟩
    case rest =>
      obtain ⟨rfl, hbc⟩ := hcut
      have HB8 := Lib.hid hbc
      clear hbc
      go_upto_region 13 with fail
      go_cut [11] (fun v wx => v = .bool bb ∧ Below w.heap.size w wx)
      case first =>
        by_cases hle : xs.length ≤ ys.length
        · have HF := Lib.hid (show bb = decide (xs = ys.take xs.length) from by
            rw [HB2.out, decide_eq_decide]
            exact ⟨fun h => h.2, fun h => ⟨hle, h⟩⟩)
          generalize decide (xs = ys.take xs.length) = qq at *
          go_wp2_with (go_at_call 31/-f-/; (with_reducible refine (SP.out _ d hle (HA.out.keep HB8.out) (HB.out.keep HB8.out)).mono ?_); rintro e w7 ⟨rfl, k2, rfl⟩)
          go_meet
          exact ⟨by rw [HF.out], below_drewN HB8.out k2⟩
        · have HF := Lib.hid (show bb = false from by rw [HB2.out]; exact decide_eq_false fun h => hle h.1)
          go_wp2
          go_meet
          exact ⟨by rw [HF.out], HB8.out⟩
      case rest =>
        obtain ⟨rfl, hbc⟩ := hcut
        have HB9 := Lib.hid hbc
        clear hbc
        go_wp2_with (go_at_call 17/-f-/; (with_reducible refine (awake2_any _ (HT.out.below HB9.out (Nat.le_refl _))).mono ?_); rintro e w9 ⟨rfl, hb⟩; have H9 := Lib.hid (HB9.out.trans (hb.mono HB9.out.size)); clear hb)
        go_ret
        exact ⟨rfl, H9.out⟩
set_option maxRecDepth 100000 in
set_option maxHeartbeats 8000000 in
theorem walk (A B : Option Addr) (n c m d : Nat) (xs ys : List Val) (w : World) (hT : PT w) (hA : Vals w A xs) (hB : Vals w B ys) (hn : xs.length = n) (hm : ys.length = m) (hc : n ≤ c) (hd : m ≤ d) (hf : ∀ x ∈ xs, FitV x) (hg : ∀ x ∈ ys, FitV x)
    (hs1 : n ≤ 9223372036854775807) (hs2 : m ≤ 9223372036854775807) :
    Calls Tryd.prog 9/-f-/ #[.slice A n c, .slice B m d] w fun e w' => e = .returned (.bool true) ∧ Below w.heap.size w w' := by
  subst hn hm
  have GA := Lib.hid (fun W (h : Vals W A xs) => refgreat_any A xs.length c xs W h rfl hf hs1)
  have GB := Lib.hid (fun W (h : Vals W B ys) => refgreat_any B ys.length d ys W h rfl hg hs2)
  have RA := Lib.hid (fun (hk : xs.length ≤ 1000000) W (h : Vals W A xs) => refall_any A xs.length c xs W h rfl hf hk)
  have RB := Lib.hid (fun (hk : ys.length ≤ 1000000) W (h : Vals W B ys) => refall_any B ys.length d ys W h rfl hg hk)
  have hG1 := fun h => great_no (vs := xs) h
  have hG2 := fun h => great_no (vs := ys) h
  have CORE := fun (h1 : greatB xs = false) (h2 : greatB ys = false) (h3 : rall xs = true) (h4 : rall ys = true) => by
    have b1 := both hf h3
    have b2 := both hg h4
    have l1 := (great_no h1).1
    have l2 := (great_no h2).1
    have z := keysOf_len xs (great_no h1).2
    have G1 := GA.out
    have G2 := GB.out
    rw [h1] at G1
    rw [h2] at G2
    have R1 := RA.out (by omega)
    have R2 := RB.out (by omega)
    rw [h3] at R1
    rw [h4] at R2
    exact core A B c d xs ys ⟨(keysOf xs).toArray⟩ ⟨(keysOf ys).toArray⟩ (valRows xs ys) w hT hA hB hc hd l1 l2 (show (keysOf xs).length ≤ 100000 by omega) (ways xs ys b1 b2) G1 G2 R1 R2
      (fun W h => key_ok A xs.length c xs W h rfl hf (by omega) (great_no h1).2 h3)
      (fun W h => key_ok B ys.length d ys W h rfl hg (by omega) (great_no h2).2 h4)
      (fun W h h' => rows_any A B xs.length c ys.length d xs ys W h h' rfl rfl (by omega) (by omega))
  have HC := Lib.hid CORE
  have HG1 := Lib.hid hG1
  have HG2 := Lib.hid hG2
  have HT := Lib.hid hT
  have HA := Lib.hid hA
  have HB := Lib.hid hB
  clear CORE hG1 hG2 hT hA hB hf hg hs1 hs2
  generalize greatB xs = g1 at *
  generalize greatB ys = g2 at *
  generalize rall xs = r1 at *
  generalize rall ys = r2 at *
  cases g1 with
  | true =>
    clear HC
    go_enter Tryd.func9/-f-/, Tryd.ntmps9/-f-/
    go_wp2_with (first
      | (go_at_call 16/-f-/; (with_reducible refine (GA.out _ HA.out).mono ?_); rintro e w1 ⟨rfl, rfl⟩)
      | (go_at_call 17/-f-/; (with_reducible refine (awake2_any _ HT.out).mono ?_); rintro e w2 ⟨rfl, hb2⟩))
    go_ret
    exact ⟨rfl, hb2⟩
  | false =>
  have RA2 := Lib.hid (RA.out (by have := (HG1.out rfl).1; omega))
  clear RA
  cases g2 with
  | true =>
    clear HC
    go_enter Tryd.func9/-f-/, Tryd.ntmps9/-f-/
    go_wp2_with (first
      | (go_at_call 16/-f-/; (with_reducible refine (GA.out _ HA.out).mono ?_); rintro e w1 ⟨rfl, rfl⟩)
      | (go_at_call 16/-f-/; (with_reducible refine (GB.out _ HB.out).mono ?_); rintro e w1 ⟨rfl, rfl⟩)
      | (go_at_call 17/-f-/; (with_reducible refine (awake2_any _ HT.out).mono ?_); rintro e w2 ⟨rfl, hb2⟩))
    go_ret
    exact ⟨rfl, hb2⟩
  | false =>
  have RB2 := Lib.hid (RB.out (by have := (HG2.out rfl).1; omega))
  clear RB
  cases r1 with
  | false =>
    clear HC
    go_enter Tryd.func9/-f-/, Tryd.ntmps9/-f-/
    go_wp2_with (first
      | (go_at_call 16/-f-/; (with_reducible refine (GA.out _ HA.out).mono ?_); rintro e w1 ⟨rfl, rfl⟩)
      | (go_at_call 16/-f-/; (with_reducible refine (GB.out _ HB.out).mono ?_); rintro e w1 ⟨rfl, rfl⟩)
      | (go_at_call 21/-f-/; (with_reducible refine (RA2.out _ HA.out).mono ?_); rintro e w1 ⟨rfl, hb⟩; have H1 := Lib.hid hb; clear hb)
      | (go_at_call 17/-f-/; (with_reducible refine (awake2_any _ (HT.out.below H1.out (Nat.le_refl _))).mono ?_); rintro e w2 ⟨rfl, hb⟩; have H2 := Lib.hid (H1.out.trans (hb.mono H1.out.size)); clear hb))
    go_ret
    exact ⟨rfl, H2.out⟩
  | true =>
  cases r2 with
  | false =>
    clear HC
    go_enter Tryd.func9/-f-/, Tryd.ntmps9/-f-/
    go_wp2_with (first
      | (go_at_call 16/-f-/; (with_reducible refine (GA.out _ HA.out).mono ?_); rintro e w1 ⟨rfl, rfl⟩)
      | (go_at_call 16/-f-/; (with_reducible refine (GB.out _ HB.out).mono ?_); rintro e w1 ⟨rfl, rfl⟩)
      | (go_at_call 21/-f-/; (with_reducible refine (RA2.out _ HA.out).mono ?_); rintro e w1 ⟨rfl, hb⟩; have H1 := Lib.hid hb; clear hb)
      | (go_at_call 21/-f-/; (with_reducible refine (RB2.out _ (HB.out.keep H1.out)).mono ?_); rintro e w2 ⟨rfl, hb⟩; have H2 := Lib.hid (H1.out.trans (hb.mono H1.out.size)); clear hb)
      | (go_at_call 17/-f-/; (with_reducible refine (awake2_any _ (HT.out.below H2.out (Nat.le_refl _))).mono ?_); rintro e w3 ⟨rfl, hb⟩; have H3 := Lib.hid (H2.out.trans (hb.mono H2.out.size)); clear hb))
    go_ret
    exact ⟨rfl, H3.out⟩
  | true => exact HC.out rfl rfl rfl rfl
set_option maxRecDepth 100000 in
theorem contract (H : Type) (enc : TypeId × Value → H) (W : World) (base : Nat) (args : Array Value) (ds gs : List (DataW H)) (before : List MemPlace)
    (hval : ∀ (j : Nat) t v, Tryd.f9.params[j]? = some t → args[j]? = some v → Value.okWide Tryd.prog W .any base t v)
    (hW : DataW.Whole enc Tryd.prog Tryd.f9.params.toList Rows.valueStandsSpec.vars false W args.toList ds gs before) (hL : laidMetH Tryd.prog Rows.valueStandsRow.laid W) (hS : W.ShapedOpen Tryd.prog) :
    Calls Tryd.prog 9 args W fun e W' => ∃ v, e = .returned v ∧ Rows.valueStandsSpec.post enc Tryd.prog Tryd.f9 false true false false W args v W' := by
  have hW' := hW
  have tb := table hL hS
  obtain ⟨p, q, hA0, hV, rfl, hfz, hnd⟩ := hW
  have hA : DataW.TrodAll enc Tryd.prog W 0 (fun _ => true) true Tryd.f9.params.toList args.toList ds p := hA0
  rw [Tryd.params9] at hA hval
  obtain ⟨v0, vs0, d0, ds0, p0, q0, hargs, rfl, rfl, h0, r0⟩ := trodAll_cons hA
  obtain ⟨v1, vs1, d1, ds1, p1, q1, rfl, rfl, rfl, h1, r1⟩ := trodAll_cons r0
  obtain ⟨rfl, rfl, rfl⟩ := trodAll_nil r1
  obtain rfl : args = #[v0, v1] := by cases args; simp_all
  obtain ⟨rfl, rfl⟩ := trodVars_none hV
  obtain ⟨a0, len0, cap0, rfl⟩ := okWide_slice Tryd.underlying31 (hval 0 31 v0 rfl rfl)
  have k0 := h0
  have lt0 : ∀ x ∈ p0, x.block < W.heap.size := by obtain ⟨m, hm⟩ := k0; exact DataW.trod_lt m _ _ _ hm
  obtain ⟨fuel0, hf0⟩ := h0
  have hg0 : DataW.trod enc Tryd.prog W 0 (fun _ => true) true fuel0 31 [.slice a0 len0 cap0] = some (d0, p0) := by simpa [Value.cells] using hf0
  obtain ⟨lm0, lc0, l0, hn0, kA0, ff0⟩ := open_vals hg0
  obtain ⟨a1, len1, cap1, rfl⟩ := okWide_slice Tryd.underlying31 (hval 1 31 v1 rfl rfl)
  have k1 := h1
  have lt1 : ∀ x ∈ p1, x.block < W.heap.size := by obtain ⟨m, hm⟩ := k1; exact DataW.trod_lt m _ _ _ hm
  obtain ⟨fuel1, hf1⟩ := h1
  have hg1 : DataW.trod enc Tryd.prog W 0 (fun _ => true) true fuel1 31 [.slice a1 len1 cap1] = some (d1, p1) := by simpa [Value.cells] using hf1
  obtain ⟨lm1, lc1, l1, hn1, kA1, ff1⟩ := open_vals hg1
  clear hA0
  refine (walk a0 a1 len0 cap0 len1 cap1 l0 l1 W tb kA0 kA1 hn0 hn1 lc0 lc1 ff0 ff1 lm0 lm1).mono fun e W' ⟨he, bel⟩ => ?_
  subst he
  exact ⟨_, rfl, _, _, _, [], _, [], hW', trodAll_mk1 (shut_bool Tryd.underlying4 _), (trodAll_cons_mk (Below.trod laidOut (by kernel_rfl) (of_decide_eq_true (by kernel_rfl)) k0 bel lt0) (trodAll_cons_mk (Below.trod laidOut (by kernel_rfl) (of_decide_eq_true (by kernel_rfl)) k1 bel lt1) trodAll_mk0)), rfl, bel.frame _, fun h => by cases h⟩
theorem laid_met (os : Os) : laidMet Tryd.prog Rows.valueStandsRow.laid ((laidWorld os).forCall (fun _ _ => 0) ⟨#[], #[.slice none 0 0, .slice none 0 0], []⟩).memory :=
  laidMet_of_run' 8 (by kernel_rfl) (by kernel_rfl)
theorem reads (os : Os) {H : Type} (enc : TypeId × Value → H) : ∃ places, DataW.whole enc Tryd.prog ((laidWorld os).forCall (fun _ _ => 0) ⟨#[], #[.slice none 0 0, .slice none 0 0], []⟩).memory Tryd.f9.params.toList Rows.valueStandsSpec.vars false (#[.slice none 0 0, .slice none 0 0] : Array Value).toList 8 = some ([.nil, .nil], [], places) :=
  ⟨[], by kernel_rfl⟩
set_option maxRecDepth 100000 in
theorem lifted (os : Os) (started : os.Started) (H : Type) (enc : TypeId × Value → H) (Fi : Stop.Interp) :
    ReturnsInHanded {} Tryd.checked os 9 .any ((OpenSpec.ofChange Rows.valueStandsSpec).preRow enc Tryd.prog Tryd.f9 Rows.valueStandsRow.domain false Rows.valueStandsRow.laid) (((OpenSpec.ofChange Rows.valueStandsSpec).at Fi).post enc Tryd.prog Tryd.f9 false true false false) := by
  obtain ⟨places, hx⟩ := reads os enc
  refine returnsInHanded_of_row (C := Tryd.checked) (s := OpenSpec.ofChange Rows.valueStandsSpec) own started (by kernel_rfl) Tryd.func9
    (witness_row_at (enc := enc) (C := Tryd.checked) false (laidWorld os) #[.slice none 0 0, .slice none 0 0] rfl (by kernel_rfl) (by kernel_rfl) (by kernel_rfl)
      (OpenSpec.preRow_of_cond 8 hx (by kernel_rfl) (fun k hk => by cases hk) (by kernel_rfl) (laid_met os))) ?_
  intro W base args ds gs before hval hW _ _ _ hL hS _
  exact contract H enc W base args ds gs before hval hW hL hS
theorem said : Rows.ValueStandsSaid :=
  OpenClaim.holds_of_cond 9 Tryd.f9 rfl rfl rfl rfl rfl rfl rfl ⟨rfl, rfl, rfl, rfl, rfl⟩ rfl rfl rfl rfl rfl (by kernel_rfl) Tryd.func9 (by kernel_rfl)
    (of_decide_eq_true (by kernel_rfl)) (by unfold Func.isWrapper; first | (rw [if_pos (by decide +kernel)]; kernel_rfl) | (rw [if_neg (by decide +kernel)]; exact ⟨rfl, rfl⟩))
    (fun os started H enc _ Fi => by rw [OpenClaim.pre_eq_preRow]; exact lifted os started H enc Fi)
theorem plain (f : FuncId) (fn : Func) (hf : Tryd.pinned.checked.prog.funcNamed "afflux/affluxlaw02.ValueStands" = some f) (hfn : Tryd.pinned.checked.prog.funcs[f]? = some fn) :
    false = Tryd.pinned.checked.prog.looks [] ∧ ∀ (j : Nat) t, fn.params[j]? = some t → Tryd.pinned.checked.prog.wantsStandIn t = false := by
  obtain rfl : f = 9 := Option.some.inj ((show Tryd.prog.funcNamed "afflux/affluxlaw02.ValueStands" = some 9 by kernel_rfl).symm.trans hf) |>.symm
  obtain rfl : fn = Tryd.f9 := (Option.some.inj (Tryd.func9.symm.trans hfn)).symm
  refine ⟨by kernel_rfl, fun j t ht => ?_⟩
  rw [Tryd.params9] at ht
  have hm := Array.mem_of_getElem? ht
  simp only [List.mem_toArray, List.mem_cons, List.not_mem_nil, or_false] at hm
  rcases hm with rfl | rfl
  · exact (show Tryd.prog.wantsStandIn 31 = false by kernel_rfl)
  · exact (show Tryd.prog.wantsStandIn 31 = false by kernel_rfl)
theorem proved : Rows.ValueStandsCardSaid :=
  Claim7.holds_tied_plain_at .later [] _ _ _ _ said (fun _ h => by cases h) (by kernel_rfl) (fun _ h => by cases h) valueStands_row_tie rfl ⟨rfl, rfl⟩ (by kernel_rfl) rfl plain (by kernel_rfl)

end Go.Proofs.YtabdmhlnaahdlaaDoor.ValueStands

/- ValueKeys: any row's key; any bytes' row. Condition: the tables of Go's library that the row lists hold what the library's text lays in them. -/
import Derived.Test.YtabdmhlnaahdlaaDoorOpv
import Derived.Test.YtabdmhlnaahdlaaDoorRun
import Derived.Deep.CutBlock
import Derived.Deep.DeepCutAuto
import Derived.Deep.RegionHeld3
namespace Go.Proofs.YtabdmhlnaahdlaaDoor.ValueKeys
open Go.ChangeShapes Go.WideShapes Go.ChangeAt Go.RowKit
set_option linter.unusedVariables false
theorem unkeyF_len : ∀ (f : Nat) (l : List UInt8) (vs : List Val), unkeyF f l = some vs → vs.length ≤ l.length
  | 0, l, vs, h => by simp [unkeyF] at h
  | f + 1, l, vs, h => by
    unfold unkeyF at h
    split at h
    · obtain rfl := Option.some.inj h; simp
    · obtain ⟨⟨x, n⟩, h1, h2⟩ := Option.bind_eq_some_iff.1 h
      obtain ⟨ys, h3, rfl⟩ := Option.map_eq_some_iff.1 h2
      have hp := first_pos l x n h1
      have := unkeyF_len f _ _ h3
      simp only [List.length_drop] at this
      simp only [List.length_cons]
      omega
theorem row_len (l : List UInt8) : ((unkey l).getD []).length ≤ l.length := by
  cases h : unkey l with
  | none => simp
  | some vs => exact unkeyF_len _ l vs h
set_option maxRecDepth 100000 in
set_option maxHeartbeats 8000000 in
theorem core (A : Option Addr) (c : Nat) (vs : List Val) (s : ByteArray) (x : ByteArray) (r : Bool) (w : World) (hT : PT w) (hA : Vals w A vs) (hn : vs.length ≤ 30) (hs : s.size ≤ 2000) (hx : r = false → x = ⟨#[]⟩)
    (GA : ∀ W, Vals W A vs → Calls Tryd.prog 16/-f-/ #[.slice A vs.length c] W fun e w' => e = .returned (.bool false) ∧ W = w')
    (RA : ∀ W, Vals W A vs → Calls Tryd.prog 21/-f-/ #[.slice A vs.length c] W fun e w' => e = .returned (.bool r) ∧ Below W.heap.size W w')
    (FK : r = true → ∀ W, Vals W A vs → Calls Tryd.prog 27/-f-/ #[.slice A vs.length c] W fun e w' => e = .returned (.string x) ∧ Below W.heap.size W w')
    (KA : ∀ W, Vals W A vs → Calls Tryd.prog 30/-f-/ #[.slice A vs.length c] W fun e w' => e = .returned (.string x) ∧ Below W.heap.size W w') :
    Calls Tryd.prog 6/-f-/ #[.slice A vs.length c, .string s] w fun e w' => e = .returned (.bool true) ∧ Below w.heap.size w w' := by
  have hL : ((unkey s.data.toList).getD []).length ≤ 2000 := by
    have h := row_len s.data.toList
    have h2 : s.data.toList.length = s.size := by simp
    omega
  have UK := Lib.hid (fun W => unkey_any s W (by omega))
  have UR := Lib.hid (fun W => refunkey_any s W (by omega))
  generalize (unkey s.data.toList).getD [] = L at *
  generalize (unkey s.data.toList).isSome = b at *
  have SM := Lib.hid (fun (W : World) (A1 A2 : Option Addr) (c1 c2 : Nat) (h : Vals W A1 L) (h' : Vals W A2 L) => refsame_any A1 A2 L.length c1 L.length c2 L L W h h' rfl rfl (by omega) (by omega))
  rw [decide_eq_true (rfl : L = L)] at SM
  have hsb : decide ((2000 : Int) < s.size) = false := decide_eq_false (by omega)
  have HGA := Lib.hid GA
  have HRA := Lib.hid RA
  have HFK := Lib.hid FK
  have HKA := Lib.hid KA
  have HT := Lib.hid hT
  have HA := Lib.hid hA
  have HX := Lib.hid hx
  clear GA RA FK KA hT hA hx
  cases r with
  | true =>
    have HF2 := Lib.hid (HFK.out rfl)
    clear HFK HX
    go_enter Tryd.func6/-f-/, Tryd.ntmps6/-f-/
    go_wp2_with (first
      | (go_at_call 16/-f-/; (with_reducible refine (HGA.out _ HA.out).mono ?_); rintro e w1 ⟨rfl, rfl⟩)
      | (go_at_call 21/-f-/; (with_reducible refine (HRA.out _ HA.out).mono ?_); rintro e w1 ⟨rfl, hb⟩; have H1 := Lib.hid hb; clear hb)
      | (go_at_call 27/-f-/; (with_reducible refine (HF2.out _ (HA.out.keep H1.out)).mono ?_); rintro e w2 ⟨rfl, hb⟩; have H2 := Lib.hid (H1.out.trans (hb.mono H1.out.size)); clear hb)
      | (go_at_call 28/-f-/; (with_reducible refine (UK.out _).mono ?_); rintro e w3 ⟨⟨A1, c1, rfl, hV, hc1⟩, hb⟩; have H3 := Lib.hid (H2.out.trans (hb.mono H2.out.size)); have HV := Lib.hid hV; clear hb hV)
      | (go_at_call 29/-f-/; (with_reducible refine (UR.out _).mono ?_); rintro e w4 ⟨⟨A2, c2, rfl, hV, hc2⟩, hb⟩; have HV4 := Lib.hid (Vals.keep HV.out hb); have H4 := Lib.hid (H3.out.trans (hb.mono H3.out.size)); have HU4 := Lib.hid hV; clear hb hV)
      | (go_at_call 30/-f-/; (with_reducible refine (HKA.out _ (HA.out.keep H4.out)).mono ?_); rintro e w5 ⟨rfl, hb⟩; have HV5 := Lib.hid (Vals.keep HV4.out hb); have HU5 := Lib.hid (Vals.keep HU4.out hb); have H5 := Lib.hid (H4.out.trans (hb.mono H4.out.size)); clear hb)
      | (go_at_call 31/-f-/; (with_reducible refine (SM.out _ A1 A2 c1 c2 HV5.out HU5.out).mono ?_); rintro e w6 ⟨rfl, kk, rfl⟩; have H6 := Lib.hid (show Below w.heap.size w (w5.drewN kk) from (Off.drewN (Off.of (S := fun _ => False) H5.out) kk).below (fun _ _ h => h) (Nat.le_refl _)))
      | (go_at_call 17/-f-/; (with_reducible refine (awake2_any _ (HT.out.below H6.out (Nat.le_refl _))).mono ?_); rintro e w7 ⟨rfl, hb⟩; have H7 := Lib.hid (H6.out.trans (hb.mono H6.out.size)); clear hb))
    go_ret
    exact ⟨rfl, H7.out⟩
  | false =>
    have hx2 := HX.out rfl
    subst hx2
    clear HFK HX
    go_enter Tryd.func6/-f-/, Tryd.ntmps6/-f-/
    go_wp2_with (first
      | (go_at_call 16/-f-/; (with_reducible refine (HGA.out _ HA.out).mono ?_); rintro e w1 ⟨rfl, rfl⟩)
      | (go_at_call 21/-f-/; (with_reducible refine (HRA.out _ HA.out).mono ?_); rintro e w1 ⟨rfl, hb⟩; have H2 := Lib.hid hb; clear hb)
      | (go_at_call 28/-f-/; (with_reducible refine (UK.out _).mono ?_); rintro e w3 ⟨⟨A1, c1, rfl, hV, hc1⟩, hb⟩; have H3 := Lib.hid (H2.out.trans (hb.mono H2.out.size)); have HV := Lib.hid hV; clear hb hV)
      | (go_at_call 29/-f-/; (with_reducible refine (UR.out _).mono ?_); rintro e w4 ⟨⟨A2, c2, rfl, hV, hc2⟩, hb⟩; have HV4 := Lib.hid (Vals.keep HV.out hb); have H4 := Lib.hid (H3.out.trans (hb.mono H3.out.size)); have HU4 := Lib.hid hV; clear hb hV)
      | (go_at_call 30/-f-/; (with_reducible refine (HKA.out _ (HA.out.keep H4.out)).mono ?_); rintro e w5 ⟨rfl, hb⟩; have HV5 := Lib.hid (Vals.keep HV4.out hb); have HU5 := Lib.hid (Vals.keep HU4.out hb); have H5 := Lib.hid (H4.out.trans (hb.mono H4.out.size)); clear hb)
      | (go_at_call 31/-f-/; (with_reducible refine (SM.out _ A1 A2 c1 c2 HV5.out HU5.out).mono ?_); rintro e w6 ⟨rfl, kk, rfl⟩; have H6 := Lib.hid (show Below w.heap.size w (w5.drewN kk) from (Off.drewN (Off.of (S := fun _ => False) H5.out) kk).below (fun _ _ h => h) (Nat.le_refl _)))
      | (go_at_call 17/-f-/; (with_reducible refine (awake2_any _ (HT.out.below H6.out (Nat.le_refl _))).mono ?_); rintro e w7 ⟨rfl, hb⟩; have H7 := Lib.hid (H6.out.trans (hb.mono H6.out.size)); clear hb))
    go_ret
    exact ⟨rfl, H7.out⟩
set_option maxRecDepth 100000 in
set_option maxHeartbeats 8000000 in
theorem walk (A : Option Addr) (n c : Nat) (vs : List Val) (s : ByteArray) (w : World) (hT : PT w) (hA : Vals w A vs) (hn : vs.length = n) (hf : ∀ x ∈ vs, FitV x)
    (hs1 : n ≤ 9223372036854775807) (hs2 : s.size ≤ 9223372036854775807) :
    Calls Tryd.prog 6/-f-/ #[.slice A n c, .string s] w fun e w' => e = .returned (.bool true) ∧ Below w.heap.size w w' := by
  subst hn
  have GA := Lib.hid (fun W (h : Vals W A vs) => refgreat_any A vs.length c vs W h rfl hf hs1)
  have CORE := fun (h1 : greatB vs = false) (h2 : s.size ≤ 2000) => by
    have l1 := (great_no h1).1
    have G1 := GA.out
    rw [h1] at G1
    have R1 := fun W (h : Vals W A vs) => refall_any A vs.length c vs W h rfl hf (by omega)
    exact core A c vs s (if rall vs = true then ⟨(keysOf vs).toArray⟩ else ⟨#[]⟩) (rall vs) w hT hA l1 h2 (fun h => by rw [h]; rfl) G1 R1
      (fun hr W h => by rw [if_pos hr]; exact refkeys_any A vs.length c vs W h rfl hf (by omega) (great_no h1).2 hr)
      (fun W h => by
        by_cases hr : rall vs = true
        · rw [if_pos hr]; exact key_ok A vs.length c vs W h rfl hf (by omega) (great_no h1).2 hr
        · rw [if_neg hr]; exact key_no A vs.length c vs W h rfl hf (by omega) (Bool.eq_false_iff.2 hr))
  have HC := Lib.hid CORE
  have HT := Lib.hid hT
  have HA := Lib.hid hA
  clear CORE hT hA hf
  generalize greatB vs = g1 at *
  cases g1 with
  | true =>
    clear HC
    go_enter Tryd.func6/-f-/, Tryd.ntmps6/-f-/
    go_wp2_with (first
      | (go_at_call 16/-f-/; (with_reducible refine (GA.out _ HA.out).mono ?_); rintro e w1 ⟨rfl, rfl⟩)
      | (go_at_call 17/-f-/; (with_reducible refine (awake2_any _ HT.out).mono ?_); rintro e w2 ⟨rfl, hb2⟩))
    go_ret
    exact ⟨rfl, hb2⟩
  | false =>
    by_cases hsz : s.size ≤ 2000
    · exact HC.out rfl hsz
    · have hsb : decide ((2000 : Int) < s.size) = true := decide_eq_true (by omega)
      clear HC
      go_enter Tryd.func6/-f-/, Tryd.ntmps6/-f-/
      go_wp2_with (first
        | (go_at_call 16/-f-/; (with_reducible refine (GA.out _ HA.out).mono ?_); rintro e w1 ⟨rfl, rfl⟩)
        | (go_at_call 17/-f-/; (with_reducible refine (awake2_any _ HT.out).mono ?_); rintro e w2 ⟨rfl, hb2⟩))
      go_ret
      exact ⟨rfl, hb2⟩
set_option maxRecDepth 100000 in
theorem contract (H : Type) (enc : TypeId × Value → H) (W : World) (base : Nat) (args : Array Value) (ds gs : List (DataW H)) (before : List MemPlace)
    (hval : ∀ (j : Nat) t v, Tryd.f6.params[j]? = some t → args[j]? = some v → Value.okWide Tryd.prog W .any base t v)
    (hW : DataW.Whole enc Tryd.prog Tryd.f6.params.toList Rows.valueKeysSpec.vars false W args.toList ds gs before) (hL : laidMetH Tryd.prog Rows.valueKeysRow.laid W) (hS : W.ShapedOpen Tryd.prog) :
    Calls Tryd.prog 6 args W fun e W' => ∃ v, e = .returned v ∧ Rows.valueKeysSpec.post enc Tryd.prog Tryd.f6 false true false false W args v W' := by
  have hW' := hW
  have tb := table hL hS
  obtain ⟨p, q, hA0, hV, rfl, hfz, hnd⟩ := hW
  have hA : DataW.TrodAll enc Tryd.prog W 0 (fun _ => true) true Tryd.f6.params.toList args.toList ds p := hA0
  rw [Tryd.params6] at hA hval
  obtain ⟨v0, vs0, d0, ds0, p0, q0, hargs, rfl, rfl, h0, r0⟩ := trodAll_cons hA
  obtain ⟨v1, vs1, d1, ds1, p1, q1, rfl, rfl, rfl, h1, r1⟩ := trodAll_cons r0
  obtain ⟨rfl, rfl, rfl⟩ := trodAll_nil r1
  obtain rfl : args = #[v0, v1] := by cases args; simp_all
  obtain ⟨rfl, rfl⟩ := trodVars_none hV
  obtain ⟨a0, len0, cap0, rfl⟩ := okWide_slice Tryd.underlying31 (hval 0 31 v0 rfl rfl)
  have k0 := h0
  have lt0 : ∀ x ∈ p0, x.block < W.heap.size := by obtain ⟨m, hm⟩ := k0; exact DataW.trod_lt m _ _ _ hm
  obtain ⟨fuel0, hf0⟩ := h0
  have hg0 : DataW.trod enc Tryd.prog W 0 (fun _ => true) true fuel0 31 [.slice a0 len0 cap0] = some (d0, p0) := by simpa [Value.cells] using hf0
  obtain ⟨lm0, lc0, l0, hn0, kA0, ff0⟩ := open_vals hg0
  obtain ⟨s1, rfl, rfl, rfl, z1⟩ := Go.ChangeMaps.open_string Tryd.underlying9 (hval 1 9 v1 rfl rfl) h1
  clear hA0
  refine (walk a0 len0 cap0 l0 s1 W tb kA0 hn0 ff0 lm0 z1).mono fun e W' ⟨he, bel⟩ => ?_
  subst he
  exact ⟨_, rfl, _, _, _, [], _, [], hW', trodAll_mk1 (shut_bool Tryd.underlying4 _), (trodAll_cons_mk (Below.trod laidOut (by kernel_rfl) (of_decide_eq_true (by kernel_rfl)) k0 bel lt0) (trodAll_cons_mk (Go.ChangeMaps.shut_string Tryd.underlying9 z1) trodAll_mk0)), rfl, bel.frame _, fun h => by cases h⟩
theorem laid_met (os : Os) : laidMet Tryd.prog Rows.valueKeysRow.laid ((laidWorld os).forCall (fun _ _ => 0) ⟨#[], #[.slice none 0 0, .string ⟨#[]⟩], []⟩).memory :=
  laidMet_of_run' 8 (by kernel_rfl) (by kernel_rfl)
theorem reads (os : Os) {H : Type} (enc : TypeId × Value → H) : ∃ places, DataW.whole enc Tryd.prog ((laidWorld os).forCall (fun _ _ => 0) ⟨#[], #[.slice none 0 0, .string ⟨#[]⟩], []⟩).memory Tryd.f6.params.toList Rows.valueKeysSpec.vars false (#[.slice none 0 0, .string ⟨#[]⟩] : Array Value).toList 8 = some ([.nil, .lit (.string [])], [], places) :=
  ⟨[], by kernel_rfl⟩
set_option maxRecDepth 100000 in
theorem lifted (os : Os) (started : os.Started) (H : Type) (enc : TypeId × Value → H) (Fi : Stop.Interp) :
    ReturnsInHanded {} Tryd.checked os 6 .any ((OpenSpec.ofChange Rows.valueKeysSpec).preRow enc Tryd.prog Tryd.f6 Rows.valueKeysRow.domain false Rows.valueKeysRow.laid) (((OpenSpec.ofChange Rows.valueKeysSpec).at Fi).post enc Tryd.prog Tryd.f6 false true false false) := by
  obtain ⟨places, hx⟩ := reads os enc
  refine returnsInHanded_of_row (C := Tryd.checked) (s := OpenSpec.ofChange Rows.valueKeysSpec) own started (by kernel_rfl) Tryd.func6
    (witness_row_at (enc := enc) (C := Tryd.checked) false (laidWorld os) #[.slice none 0 0, .string ⟨#[]⟩] rfl (by kernel_rfl) (by kernel_rfl) (by kernel_rfl)
      (OpenSpec.preRow_of_cond 8 hx (by kernel_rfl) (fun k hk => by cases hk) (by kernel_rfl) (laid_met os))) ?_
  intro W base args ds gs before hval hW _ _ _ hL hS _
  exact contract H enc W base args ds gs before hval hW hL hS
theorem said : Rows.ValueKeysSaid :=
  OpenClaim.holds_of_cond 6 Tryd.f6 rfl rfl rfl rfl rfl rfl rfl ⟨rfl, rfl, rfl, rfl, rfl⟩ rfl rfl rfl rfl rfl (by kernel_rfl) Tryd.func6 (by kernel_rfl)
    (of_decide_eq_true (by kernel_rfl)) (by unfold Func.isWrapper; first | (rw [if_pos (by decide +kernel)]; kernel_rfl) | (rw [if_neg (by decide +kernel)]; exact ⟨rfl, rfl⟩))
    (fun os started H enc _ Fi => by rw [OpenClaim.pre_eq_preRow]; exact lifted os started H enc Fi)
theorem plain (f : FuncId) (fn : Func) (hf : Tryd.pinned.checked.prog.funcNamed "afflux/affluxlaw02.ValueKeys" = some f) (hfn : Tryd.pinned.checked.prog.funcs[f]? = some fn) :
    false = Tryd.pinned.checked.prog.looks [] ∧ ∀ (j : Nat) t, fn.params[j]? = some t → Tryd.pinned.checked.prog.wantsStandIn t = false := by
  obtain rfl : f = 6 := Option.some.inj ((show Tryd.prog.funcNamed "afflux/affluxlaw02.ValueKeys" = some 6 by kernel_rfl).symm.trans hf) |>.symm
  obtain rfl : fn = Tryd.f6 := (Option.some.inj (Tryd.func6.symm.trans hfn)).symm
  refine ⟨by kernel_rfl, fun j t ht => ?_⟩
  rw [Tryd.params6] at ht
  have hm := Array.mem_of_getElem? ht
  simp only [List.mem_toArray, List.mem_cons, List.not_mem_nil, or_false] at hm
  rcases hm with rfl | rfl
  · exact (show Tryd.prog.wantsStandIn 31 = false by kernel_rfl)
  · exact (show Tryd.prog.wantsStandIn 9 = false by kernel_rfl)
theorem proved : Rows.ValueKeysCardSaid :=
  Claim7.holds_tied_plain_at .later [] _ _ _ _ said (fun _ h => by cases h) (by kernel_rfl) (fun _ h => by cases h) valueKeys_row_tie rfl ⟨rfl, rfl⟩ (by kernel_rfl) rfl plain (by kernel_rfl)

end Go.Proofs.YtabdmhlnaahdlaaDoor.ValueKeys

/- SealBack: whatever texts, framed one behind the other: they are told as they were; cut off anywhere all ahead are told, and the next one is short. Condition: the table that the row lists holds what the program's text lays in it. -/
import Derived.Test.YtmmgicomidpmhaaDoorSealSums
import Derived.Test.YtmmgicomidpmhaaDoorMor
namespace Go.Proofs.YtmmgicomidpmhaaDoor.SealBack
open Go.ChangeShapes Go.WideShapes Go.ChangeAt Go.RowKit SealSums
set_option linter.unusedVariables false
def lists (ss : List ByteArray) : List (List UInt8) := ss.map fun s => s.data.toList
theorem lists_back (ss : List ByteArray) : (lists ss).map (fun b => ByteArray.mk b.toArray) = ss := by
  unfold lists
  rw [List.map_map]
  refine (List.map_congr_left (g := id) fun s _ => ?_).trans (List.map_id ss)
  rfl
theorem lists_take (ss : List ByteArray) (n : Nat) : (lists ss).take n = lists (ss.take n) := by unfold lists; rw [List.map_take]
theorem Strs.take {w : World} {A : Option Addr} {ss : List ByteArray} (h : Strs w A ss) (n : Nat) : Strs w A (ss.take n) := by
  rcases h with h | ⟨b, off, h1, h2, h3⟩
  · exact .inl (by rw [h]; simp)
  · refine .inr ⟨b, off, h1, h2, fun i hi => ?_⟩
    rw [List.length_take] at hi
    rw [h3 i (by omega)]
    simp only [List.getD, List.getElem?_take]; rw [if_pos (by omega)]
theorem frames_step (ss : List ByteArray) (k : Nat) (h : k < ss.length) : frames (lists (ss.take (k + 1))) = frames (lists (ss.take k)) ++ framed (ss.getD k ⟨#[]⟩).data.toList := by
  have e : lists (ss.take (k + 1)) = lists (ss.take k) ++ [(ss.getD k ⟨#[]⟩).data.toList] := by
    unfold lists
    rw [List.take_succ_eq_append_getElem h, List.map_append]
    simp [List.getD, List.getElem?_eq_getElem h]
  unfold frames
  rw [e, List.flatMap_append]
  simp
theorem frames_len (ss : List ByteArray) : (frames (lists ss)).length = (cat ss).length + 12 * ss.length := by
  induction ss with
  | nil => simp [frames, lists, cat]
  | cons s r ih =>
    have h1 : frames (lists (s :: r)) = framed s.data.toList ++ frames (lists r) := rfl
    have h2 : cat (s :: r) = s.data.toList ++ cat r := rfl
    rw [h1, h2, List.length_append, List.length_append, framed_len, ih, List.length_cons]
    omega
theorem uint_rem (x : Int) (n : Nat) (h0 : 0 < n) (hn : n ≤ 1000000) :
    ∃ k : Nat, k < n ∧ wrap64 ((IntKind.u64.wrap x).tmod n) = k := by
  have hu : 0 ≤ IntKind.u64.wrap x := by rw [IntKind.wrap_u64]; omega
  rw [Int.tmod_eq_emod_of_nonneg hu]
  have h1 := Int.emod_nonneg (IntKind.u64.wrap x) (b := (n : Int)) (by omega)
  have h2 := Int.emod_lt_of_pos (IntKind.u64.wrap x) (b := (n : Int)) (by omega)
  generalize IntKind.u64.wrap x % (n : Int) = y at *
  refine ⟨y.toNat, by omega, ?_⟩
  unfold wrap64
  omega
set_option maxHeartbeats 8000000 in
theorem walk (A : Option Addr) (n c : Nat) (ss : List ByteArray) (at_ : Int) (w : World) (hT : QT w) (hA : Strs w A ss) (hn : ss.length = n) (hc : n ≤ c) (hm : n ≤ 9223372036854775807) (hz : ∀ s ∈ ss, s.size ≤ 9223372036854775807) (ha1 : -9223372036854775808 ≤ at_) (ha2 : at_ ≤ 9223372036854775807) :
    Calls Tryd.prog 7 #[.slice A n c, .int .i64 at_] w fun e w' => e = .returned (.bool true) ∧ Below w.heap.size w w' := by
  subst hn
  by_cases hl : Long ss
  · have JL := Lib.hid (fun W (h : Strs W A ss) => join_long A ss.length c ss W h rfl hm hz hl)
    go_enter Tryd.func7, Tryd.ntmps7
    go_wp2_with (first | (go_at_call 8; refine (JL.out _ hA).mono ?_; rintro e w1 ⟨rfl, rfl⟩) | (go_at_call 9; refine (awake_any _ hT).mono ?_; rintro e w1 ⟨rfl, hb1⟩))
    go_ret
    exact ⟨rfl, hb1⟩
  have JN := join_not_long A ss.length c ss w hA rfl hm hz hl
  by_cases hf : ss.length ≤ 20 ∧ (cat (ss.take 20)).length ≤ 1500
  · obtain ⟨hf1, hf2⟩ := hf
    have hfull : ss.take 20 = ss := List.take_of_length_le hf1
    rw [hfull] at hf2
    have JN2 := Lib.hid (JN.mono (R' := fun e w' => (∃ S : ByteArray, e = .returned (.tuple #[.string S, .bool true])) ∧ w = w') (by
      rintro e w' ⟨⟨S, b, h1, h2, h3⟩, h4⟩
      rw [hfull] at h1
      have h5 : S.size ≤ 1500 := by have := congrArg List.length h1; simp at this; omega
      rw [decide_eq_true ⟨hf1, h5⟩] at h2
      subst h2
      exact ⟨⟨S, h3⟩, h4⟩))
    have hsz : ∀ s ∈ ss, s.size ≤ 1500 := fun s hs => by
      have := cat_mem ss s hs; omega
    have HSZ := Lib.hid hsz
    have HA := Lib.hid hA
    have HT := Lib.hid hT
    have HF2 := Lib.hid hf2
    clear JN hsz hA hT hf2 hfull hl hz
    by_cases h0 : ss.length = 0
    · have h0' : ((ss.length : Int) == 0) = true := by rw [h0]; rfl
      clear h0
      go_enter Tryd.func7, Tryd.ntmps7
      go_wp2_with (first | (go_at_call 8; refine JN2.out.mono ?_; rintro e w1 ⟨⟨S, rfl⟩, rfl⟩) | (go_at_call 9; refine (awake_any _ HT.out).mono ?_; rintro e w1 ⟨rfl, hb1⟩))
      go_ret
      exact ⟨rfl, hb1⟩
    have h1 : 0 < ss.length := by omega
    have h0' : ((ss.length : Int) == 0) = false := beq_eq_false_iff_ne.2 (by omega)
    go_enter Tryd.func7, Tryd.ntmps7
    go_wp2_with (go_at_call 8; refine JN2.out.mono ?_; rintro e w1 ⟨⟨S, rfl⟩, rfl⟩)
    go_loopw [7, 8] (fun v i wr => ∃ (k : Nat) (X : ByteArray), k ≤ ss.length ∧ i = .int .i64 k ∧ v = .string X ∧ X.size ≤ 2000 * k ∧ Hid (X.data.toList = frames (lists (ss.take k))) ∧ Below w.heap.size w wr) (fun _ i _ => ss.length - (intOf i).toNat)
    case atStart => exact ⟨0, _, Nat.zero_le _, rfl, rfl, by simp [ByteArray.size], Lib.hid rfl, Below.refl _ _⟩
    case round =>
      obtain ⟨k, X, hk, rfl, rfl, hX, hXd, hbl⟩ := hrel
      by_cases hlt : k < ss.length
      · have hsz := HSZ.out _ (List.getElem_mem hlt)
        rw [show ss[k] = ss.getD k ⟨#[]⟩ from by simp [List.getD, List.getElem?_eq_getElem hlt]] at hsz
        have HFS := Lib.hid (frames_step ss k hlt)
        rcases HA.out with h | ⟨b, off, rfl, hbw, hcell⟩
        · subst h; simp at hlt
        have x0 := (hbl.cell (p := ⟨b, off + k, none⟩) hbw).trans (hcell k hlt)
        have hbw2 : b < wr.heap.size := Nat.lt_of_lt_of_le hbw hbl.size
        clear hcell
        generalize ss.getD k ⟨#[]⟩ = s at *
        have hbb : Below wr.heap.size wr (wr.alloc (.cells #[.string s] 9)) := (Below.refl _ _).alloc (Nat.le_refl _) _
        have hsl : s.data.toList.length = s.size := by simp
        have FR := Lib.hid (frame_ok (some ⟨wr.heap.size, 0, none⟩) 1 1 [s] _ (strs_one (Blk.new wr 9 #[.string s])) ((HT.out.below hbl HT.out.lt).below hbb (Nat.lt_of_lt_of_le HT.out.lt hbl.size)) rfl (by omega) (fun x hx => by simp at hx; subst hx; omega) (by rw [show cat [s] = s.data.toList from by simp [cat]]; omega))
        rw [show cat [s] = s.data.toList from by simp [cat]] at FR
        have hfl : (ByteArray.mk (framed s.data.toList).toArray).size = s.size + 12 := by rw [← hsl, ← framed_len]; simp [ByteArray.size]
        have HFD := Lib.hid (show (ByteArray.mk (framed s.data.toList).toArray).data.toList = framed s.data.toList from rfl)
        clear hsl
        generalize (ByteArray.mk (framed s.data.toList).toArray) = F at *
        have HFL := Lib.hid hfl
        have hfl2 : F.size ≤ 1600 := by omega
        have HBB := Lib.hid hbb
        clear hfl hbb
        go_wp2_with (go_at_call 11; refine FR.out.mono ?_; rintro e w1 ⟨rfl, hb1⟩)
        go_roundw
        case rel => exact ⟨k + 1, _, by omega, by go_num, rfl, by rw [ByteArray.size_append]; omega, Lib.hid (by rw [HFS.out, ← hXd.out, ← HFD.out]; simp), hbl.trans ((HBB.out.trans (hb1.mono (by simp))).mono hbl.size)⟩
        case measure => simp [intOf]; omega
      · have hkl : k = ss.length := by omega
        subst hkl
        rw [List.take_length] at hXd
        have hXl : X.size = (cat ss).length + 12 * ss.length := by rw [← frames_len, ← hXd.out]; simp
        have hX2 : 12 ≤ X.size := by omega
        have hX3 : X.size ≤ 2000 := by have := HF2.out; omega
        have hX0 : ((X.size : Int) == 0) = false := beq_eq_false_iff_ne.2 (by omega)
        clear hXl hX
        obtain ⟨kk, hkk, hkv⟩ := uint_rem at_ X.size (by omega) (by omega)
        have hex : (X.extract 0 kk).data.toList = X.data.toList.take kk := by rw [Lib.extract_data]; simp
        have hll : ∀ b ∈ lists ss, b.length ≤ 65536 := fun b hb => by
          obtain ⟨s, hs, rfl⟩ := List.mem_map.1 hb
          have h1 := HSZ.out s hs
          have h2 : s.data.toList.length = s.size := by simp
          omega
        obtain ⟨m, hm1, hcut, hle⟩ := alls_cut (lists ss) hll kk (by rw [← hXd.out]; simp; omega)
        have hal : alls X.data.toList = (lists ss, X.size, 0) := by
          have := alls_frames (lists ss) hll []
          rw [List.append_nil, alls_nil] at this
          rw [hXd.out, this, ← hXd.out]
          simp
        have AL := Lib.hid (fun W h => all_any X W h (by omega))
        have AC := Lib.hid (fun W h => all_any (X.extract 0 kk) W h (by simp; omega))
        rw [hal] at AL
        rw [hex, hXd.out, hcut] at AC
        have hml : m ≤ ss.length := by simpa [lists] using hm1
        have hlt1 : (lists ss).length = ss.length := by simp [lists]
        have hlt2 : ((lists ss).take m).length = m := by rw [List.length_take, hlt1]; omega
        have HLE := Lib.hid hle
        have HL1 := Lib.hid hlt1
        have HL2 := Lib.hid hlt2
        have HKV := Lib.hid hkv
        clear hex hcut hal hll hm1 hlt1 hlt2 hkv
        generalize hTT : (frames ((lists ss).take m)).length = T at *
        clear hTT
        obtain ⟨ct, hct⟩ : ∃ ct : Nat, ct = (if kk = T then 0 else 1) := ⟨_, rfl⟩
        rw [← hct] at AC
        have hb1 : ((T : Int) == (kk : Int)) = ((ct : Int) == 0) := by
          by_cases h : kk = T
          · rw [if_pos h] at hct; rw [hct, h]; simp
          · rw [if_neg h] at hct
            rw [hct, beq_eq_false_iff_ne.2 (show (T : Int) ≠ (kk : Int) by omega)]; rfl
        have hb2 : ((ct : Int) != 2) = true := bne_iff_ne.2 (by
          by_cases h : kk = T
          · rw [if_pos h] at hct; omega
          · rw [if_neg h] at hct; omega)
        have HCB := Lib.hid hb1
        clear hct hb1
        go_upto_region 16 with (go_at_call 18; refine (AL.out _ (HT.out.below hbl HT.out.lt)).mono ?_; rintro e w3 ⟨v3, rfl, hr3, hb3⟩; have HT3 := Lib.hid ((HT.out.below hbl HT.out.lt).below hb3 (Nat.lt_of_lt_of_le HT.out.lt hbl.size)); have HR3 := Lib.hid hr3; clear hr3)
        rw [HKV.out]
        have hkx : (kk : Int) ≤ X.size := by omega
        go_upto_region 17 with (go_at_call 18; refine (AC.out _ HT3.out).mono ?_; rintro e w4 ⟨v4, rfl, hr4, hb4⟩; have HR4 := Lib.hid hr4; clear hr4)
        have hs3' := ((Off.of hb4 : Off (fun _ => False) w3 w4).own HR3.out (fun _ _ h => h) : RowS w4 wr.heap.size v3 (lists ss))
        obtain ⟨A3, c3, hv3, hs3, hc3⟩ := RowS.strs hs3'
        obtain ⟨A4, c4, hv4, hs4, hc4⟩ := RowS.strs HR4.out
        rw [lists_back] at hs3
        rw [lists_take, lists_back] at hs4
        rw [HL1.out] at hv3 hc3
        rw [HL2.out] at hv4 hc4
        subst hv3
        subst hv4
        have hb14 : Below w.heap.size w w4 := (hbl.trans (hb3.mono hbl.size)).trans (hb4.mono (Nat.le_trans hbl.size hb3.size))
        have hA4 := HA.out.keep hb14
        have SM1 := Lib.hid (same_yes A3 A ss.length c3 c ss w4 hs3 hA4 rfl (by omega))
        have SM2 := Lib.hid (fun m1 => same_yes A4 A m c4 c (ss.take m) (w4.drewN m1) hs4 (Strs.take hA4 m) (by rw [List.length_take]; omega) (by omega))
        have HT4 := Lib.hid (HT3.out.below hb4 HT3.out.lt)
        have hb9 := HCB.out
        have hmc : (m : Int) ≤ c := by omega
        have hmn : (m : Int) ≤ ss.length := by omega
        have hTk : (T : Int) ≤ kk := by omega
        clear hs3 hs4 hA4 hs3' hc3 hc4 hle hkx hkk
        go_wp2_with (first
          | (go_at_call_of 20 (Value.slice A3 ss.length c3); refine SM1.out.mono ?_; rintro e w5 ⟨rfl, m5, rfl⟩)
          | (go_at_call_of 20 (Value.slice A4 m c4); refine (SM2.out _).mono ?_; rintro e w6 ⟨rfl, m6, rfl⟩)
          | (go_at_call 9; refine (awake_any _ (HT4.out.below (below_drewN (Below.refl _ _) _) HT4.out.lt)).mono ?_; rintro e w7 ⟨rfl, hb7⟩))
        go_ret
        exact ⟨rfl, (below_drewN hb14 _).trans (hb7.mono hb14.size)⟩
  · have JN2 := Lib.hid (JN.mono (R' := fun e w' => (∃ S : ByteArray, e = .returned (.tuple #[.string S, .bool false])) ∧ w = w') (by
      rintro e w' ⟨⟨S, b, h1, h2, h3⟩, h4⟩
      have h5 : S.size = (cat (ss.take 20)).length := by have := congrArg List.length h1; simp at this; simpa using this
      rw [decide_eq_false (by rw [h5]; exact hf)] at h2
      subst h2
      exact ⟨⟨S, h3⟩, h4⟩))
    clear JN hf
    go_enter Tryd.func7, Tryd.ntmps7
    go_wp2_with (first | (go_at_call 8; refine JN2.out.mono ?_; rintro e w1 ⟨⟨S, rfl⟩, rfl⟩) | (go_at_call 9; refine (awake_any _ hT).mono ?_; rintro e w1 ⟨rfl, hb1⟩))
    go_ret
    exact ⟨rfl, hb1⟩
theorem own : ownKnob Tryd.prog.godebug = none := by kernel_rfl
theorem laidOut : laidOutB Tryd.prog = true := by kernel_rfl
set_option maxRecDepth 100000 in
theorem contract (H : Type) (enc : TypeId × Value → H) (W : World) (base : Nat) (args : Array Value) (ds gs : List (DataW H)) (before : List MemPlace)
    (hval : ∀ (j : Nat) t v, Tryd.f7.params[j]? = some t → args[j]? = some v → Value.okWide Tryd.prog W .any base t v)
    (hW : DataW.Whole enc Tryd.prog Tryd.f7.params.toList Rows.sealBackSpec.vars false W args.toList ds gs before) (hL : laidMetH Tryd.prog Rows.sealBackRow.laid W) :
    Calls Tryd.prog 7 args W fun e W' => ∃ v, e = .returned v ∧ Rows.sealBackSpec.post enc Tryd.prog Tryd.f7 false true false false W args v W' := by
  have hW' := hW
  have tb := table hL
  obtain ⟨p, q, hA0, hV, rfl, hfz, hnd⟩ := hW
  have hA : DataW.TrodAll enc Tryd.prog W 0 (fun _ => true) true Tryd.f7.params.toList args.toList ds p := hA0
  rw [Tryd.params7] at hA hval
  obtain ⟨v0, vs0, d0, ds0, p0, q0, hargs, rfl, rfl, h0, r0⟩ := trodAll_cons hA
  obtain ⟨v1, vs1, d1, ds1, p1, q1, rfl, rfl, rfl, h1, r1⟩ := trodAll_cons r0
  obtain ⟨rfl, rfl, rfl⟩ := trodAll_nil r1
  obtain rfl : args = #[v0, v1] := by cases args; simp_all
  obtain ⟨rfl, rfl⟩ := trodVars_none hV
  obtain ⟨a0, len0, cap0, rfl⟩ := okWide_slice Tryd.underlying22 (hval 0 22 v0 rfl rfl)
  have k0 := h0
  have lt0 : ∀ x ∈ p0, x.block < W.heap.size := by obtain ⟨m, hm⟩ := k0; exact DataW.trod_lt m _ _ _ hm
  obtain ⟨fuel0, hf0⟩ := h0
  have hg0 : DataW.trod enc Tryd.prog W 0 (fun _ => true) true fuel0 22 [.slice a0 len0 cap0] = some (d0, p0) := by simpa [Value.cells] using hf0
  have o0 := texts_open hg0
  obtain ⟨hlc0, hcm0, ss0, hn0, hs0, hz0⟩ := o0
  obtain ⟨a1, rfl, rfl, rfl, w1⟩ := open_int Tryd.underlying3 (hval 1 3 v1 rfl rfl) h1
  have b1 := bounds_i64 w1
  clear hA0
  refine (walk a0 len0 cap0 ss0 a1 W tb hs0 hn0 hlc0 (Nat.le_trans hlc0 hcm0) hz0 b1.1 b1.2).mono fun e W' ⟨he, bel⟩ => ?_
  subst he
  exact ⟨_, rfl, _, _, _, [], _, [], hW', trodAll_mk1 (shut_bool Tryd.underlying4 _), (trodAll_cons_mk (Below.trod laidOut (by kernel_rfl) (of_decide_eq_true (by kernel_rfl)) k0 bel lt0) (trodAll_cons_mk (shut_int Tryd.underlying3 w1) trodAll_mk0)), rfl, bel.frame _, fun h => by cases h⟩
theorem laid_met (os : Os) : laidMet Tryd.prog Rows.sealBackRow.laid ((laidWorld os).forCall (fun _ _ => 0) ⟨#[], #[.slice none 0 0, .int .i64 0], []⟩).memory :=
  laidMet_of_run' 8 (by kernel_rfl) (by kernel_rfl)
theorem reads (os : Os) {H : Type} (enc : TypeId × Value → H) : ∃ places, DataW.whole enc Tryd.prog ((laidWorld os).forCall (fun _ _ => 0) ⟨#[], #[.slice none 0 0, .int .i64 0], []⟩).memory Tryd.f7.params.toList Rows.sealBackSpec.vars false (#[.slice none 0 0, .int .i64 0] : Array Value).toList 8 = some ([.nil, .lit (.int .i64 0)], [], places) :=
  ⟨[], by kernel_rfl⟩
set_option maxRecDepth 100000 in
theorem lifted (os : Os) (started : os.Started) (H : Type) (enc : TypeId × Value → H) (Fi : Stop.Interp) :
    ReturnsInHanded {} Tryd.checked os 7 .any ((OpenSpec.ofChange Rows.sealBackSpec).preRow enc Tryd.prog Tryd.f7 Rows.sealBackRow.domain false Rows.sealBackRow.laid) (((OpenSpec.ofChange Rows.sealBackSpec).at Fi).post enc Tryd.prog Tryd.f7 false true false false) := by
  obtain ⟨places, hx⟩ := reads os enc
  refine returnsInHanded_of_row (C := Tryd.checked) (s := OpenSpec.ofChange Rows.sealBackSpec) own started (by kernel_rfl) Tryd.func7
    (witness_row_at (enc := enc) (C := Tryd.checked) false (laidWorld os) #[.slice none 0 0, .int .i64 0] rfl (by kernel_rfl) (by kernel_rfl) (by kernel_rfl)
      (OpenSpec.preRow_of_cond 8 hx (by kernel_rfl) (fun k hk => by cases hk) (by kernel_rfl) (laid_met os))) ?_
  intro W base args ds gs before hval hW _ _ _ hL _ _
  exact contract H enc W base args ds gs before hval hW hL
theorem said : Rows.SealBackSaid :=
  OpenClaim.holds_of_cond 7 Tryd.f7 rfl rfl rfl rfl rfl rfl rfl ⟨rfl, rfl, rfl, rfl, rfl⟩ rfl rfl rfl rfl rfl (by kernel_rfl) Tryd.func7 (by kernel_rfl)
    (of_decide_eq_true (by kernel_rfl)) (by unfold Func.isWrapper; first | (rw [if_pos (by decide +kernel)]; kernel_rfl) | (rw [if_neg (by decide +kernel)]; exact ⟨rfl, rfl⟩))
    (fun os started H enc _ Fi => by rw [OpenClaim.pre_eq_preRow]; exact lifted os started H enc Fi)
theorem plain (f : FuncId) (fn : Func) (hf : Tryd.pinned.checked.prog.funcNamed "afflux/affluxlaw05.SealBack" = some f) (hfn : Tryd.pinned.checked.prog.funcs[f]? = some fn) :
    false = Tryd.pinned.checked.prog.looks [] ∧ ∀ (j : Nat) t, fn.params[j]? = some t → Tryd.pinned.checked.prog.wantsStandIn t = false := by
  obtain rfl : f = 7 := Option.some.inj ((show Tryd.prog.funcNamed "afflux/affluxlaw05.SealBack" = some 7 by kernel_rfl).symm.trans hf) |>.symm
  obtain rfl : fn = Tryd.f7 := (Option.some.inj (Tryd.func7.symm.trans hfn)).symm
  refine ⟨by kernel_rfl, fun j t ht => ?_⟩
  rw [Tryd.params7] at ht
  have hm := Array.mem_of_getElem? ht
  simp only [List.mem_toArray, List.mem_cons, List.not_mem_nil, or_false] at hm
  rcases hm with rfl | rfl
  · exact (show Tryd.prog.wantsStandIn 22 = false by kernel_rfl)
  · exact (show Tryd.prog.wantsStandIn 3 = false by kernel_rfl)
theorem proved : Rows.SealBackCardSaid :=
  Claim7.holds_tied_plain_at .later [] _ _ _ _ said (fun _ h => by cases h) (by kernel_rfl) (fun _ h => by cases h) sealBack_row_tie rfl ⟨rfl, rfl⟩ (by kernel_rfl) rfl plain (by kernel_rfl)

end Go.Proofs.YtmmgicomidpmhaaDoor.SealBack

/- SealTurned: whatever bytes, whatever burst: it turns the sum; a frame in which one turned something behind its first four bytes isn't opened. Condition: the table that the row lists holds what the program's text lays in it. -/
import Derived.Test.YtmmgicomidpmhaaDoorTur
import Derived.Test.YtmmgicomidpmhaaDoorMor
import Derived.Test.YtmmgicomidpmhaaDoorQtc
import Derived.Deep.CutBlock
import Derived.Deep.DeepCutAuto
namespace Go.Proofs.YtmmgicomidpmhaaDoor.SealTurned
open Go.ChangeShapes Go.WideShapes Go.ChangeAt Go.RowKit
set_option linter.unusedVariables false
theorem le_cat : ∀ a b : List UInt8, Crc.le (a ++ b) = Crc.le a + 256 ^ a.length * Crc.le b
  | [], b => by simp [Crc.le]
  | c :: a, b => by
    rw [List.cons_append, Crc.le_add, Crc.le_add, le_cat a b, List.length_cons, Nat.pow_succ, Nat.mul_add, Nat.mul_comm (256 ^ a.length) 256, Nat.mul_assoc]
    omega
theorem le_take (l : List UInt8) (k : Nat) (h : k ≤ l.length) : Crc.le l % 2 ^ (8 * k) = Crc.le (l.take k) := by
  have e := le_cat (l.take k) (l.drop k)
  rw [List.take_append_drop, List.length_take, Nat.min_eq_left h] at e
  have hlt := Crc.le_lt (l.take k)
  rw [List.length_take, Nat.min_eq_left h] at hlt
  have hp : (256 : Nat) ^ k = 2 ^ (8 * k) := by rw [Nat.pow_mul]
  rw [e, hp, Nat.add_mul_mod_self_left, Nat.mod_eq_of_lt hlt]
theorem low_same (x B a m : Nat) (h : m ≤ a) : (x ^^^ (B <<< a)) % 2 ^ m = x % 2 ^ m := by
  apply Nat.eq_of_testBit_eq
  intro i
  rw [Nat.testBit_mod_two_pow, Nat.testBit_mod_two_pow, Nat.testBit_xor, Nat.testBit_shiftLeft]
  by_cases hi : i < m
  · simp [hi, Nat.not_le.2 (Nat.lt_of_lt_of_le hi h)]
  · simp [hi]
theorem burst_lt (n a x : Nat) : burst n a x < 2 ^ 64 := by
  unfold burst
  exact Nat.lt_of_lt_of_le (Nat.mod_lt _ (Nat.pow_pos (by decide))) (Nat.pow_le_pow_right (by decide) (by omega))
theorem sum_turned {s t : List UInt8} (hl : t.length = s.length) (a B : Nat) (hB : B < 2 ^ 64) (ha : a ≤ 8 * s.length) (h : Crc.le t = Crc.le s ^^^ (B <<< a)) : Crc.sum t = Crc.sum s ↔ t = s := by
  rw [← Crc.burst 18446744073709551615 hl a B hB ha h]
  unfold Crc.sum
  constructor
  · intro e
    rw [← Crc.inv_inv (Crc.crc 18446744073709551615 t), e, Crc.inv_inv]
  · intro e; rw [e]
theorem opened_turned (b g : List UInt8) (hb : b.length ≤ 65536) (hl : g.length = (framed b).length) (a B : Nat) (hB : B < 2 ^ 64) (h32 : 32 ≤ a) (ha : a ≤ 8 * (framed b).length) (h : Crc.le g = Crc.le (framed b) ^^^ (B <<< a)) : (opened g).2.2 = 0 ↔ g = framed b := by
  have hfl := framed_len b
  have h4 : g.take 4 = be4 b.length := by
    have e1 : (framed b).take 4 = be4 b.length := by
      have : framed b = be4 b.length ++ (b ++ le8 (Crc.sum (headed b))) := by unfold framed headed; simp
      have h4 : (be4 b.length).length = 4 := rfl
      rw [this, List.take_left' h4]
    rw [← e1]
    refine Crc.le_inj (by rw [List.length_take, List.length_take, hl]) ?_
    rw [← le_take g 4 (by omega), ← le_take (framed b) 4 (by omega), h, low_same _ _ _ _ h32]
  have hz : bev (g.take 4) = b.length := by rw [h4, bev_be4 _ (by omega)]
  have h8 : ((g.drop (4 + b.length)).take 8) = g.drop (4 + b.length) := List.take_of_length_le (by rw [List.length_drop]; omega)
  have hst := Crc.stored (a := g.take (4 + b.length)) (b := g.drop (4 + b.length)) (by rw [List.length_drop]; omega)
  rw [List.take_append_drop] at hst
  have hsf := Crc.stored (a := headed b) (b := le8 (Crc.sum (headed b))) (le8_len _)
  have hf := hsf.1 (le_le8 _ (Crc.sum_lt _)).symm
  have hf2 : Crc.crc 18446744073709551615 (framed b) = Crc.stn 64 18446744073709551615 := hf
  have hbu := Crc.burst 18446744073709551615 hl a B hB ha h
  unfold opened
  rw [if_neg (by omega), hz, if_neg (by omega), if_neg (by omega), h8]
  rw [← hbu, hf2]
  rw [← hst]
  by_cases hc : Crc.le (g.drop (4 + b.length)) = Crc.sum (g.take (4 + b.length))
  · rw [if_pos hc]; simp [hc]
  · rw [if_neg hc]; simp; exact fun e => hc e.symm
theorem uint_rem8 (x : Int) (n : Nat) (h0 : 0 < n) (hn : n ≤ 1000000) :
    ∃ k : Nat, k < 8 * n ∧ wrap64 ((IntKind.u64.wrap x).tmod (8 * (n : Int))) = k := by
  have hu : 0 ≤ IntKind.u64.wrap x := by rw [IntKind.wrap_u64]; omega
  rw [Int.tmod_eq_emod_of_nonneg hu]
  have h1 := Int.emod_nonneg (IntKind.u64.wrap x) (b := (8 * (n : Int))) (by omega)
  have h2 := Int.emod_lt_of_pos (IntKind.u64.wrap x) (b := (8 * (n : Int))) (by omega)
  generalize IntKind.u64.wrap x % (8 * (n : Int)) = y at *
  refine ⟨y.toNat, by omega, ?_⟩
  unfold wrap64
  omega
theorem uint_rem32 (x : Int) (n : Nat) (h0 : 13 ≤ n) (hn : n ≤ 1000000) :
    ∃ k : Nat, 32 + k < 8 * n ∧ wrap64 ((IntKind.u64.wrap x).tmod (8 * (n : Int) - 32)) = k := by
  have hu : 0 ≤ IntKind.u64.wrap x := by rw [IntKind.wrap_u64]; omega
  rw [Int.tmod_eq_emod_of_nonneg hu]
  have h1 := Int.emod_nonneg (IntKind.u64.wrap x) (b := (8 * (n : Int) - 32)) (by omega)
  have h2 := Int.emod_lt_of_pos (IntKind.u64.wrap x) (b := (8 * (n : Int) - 32)) (by omega)
  generalize IntKind.u64.wrap x % (8 * (n : Int) - 32) = y at *
  refine ⟨y.toNat, by omega, ?_⟩
  unfold wrap64
  omega
theorem strs_one {w : World} {t : TypeId} {g : Nat} {a : ByteArray} (h : Blk w g t #[.string a]) : Strs w (some ⟨g, 0, none⟩) [a] :=
  .inr ⟨g, 0, rfl, h.lt, fun i hi => by
    obtain rfl : i = 0 := by simp at hi; omega
    rw [h.cell]; rfl⟩
set_option maxRecDepth 100000 in
set_option maxHeartbeats 4000000 in
theorem walk (s : ByteArray) (at_ x0 : Int) (w : World) (hT : QT w) (hx0 : 0 ≤ x0) (hx1 : x0 ≤ 18446744073709551615) :
    Calls Tryd.prog 6/-f-/ #[.string s, .int .i64 at_, .int .u64 x0] w fun e w' => e = .returned (.bool true) ∧ Below w.heap.size w w' := by
  by_cases hbig : s.size = 0 ∨ 1500 < s.size
  · rcases hbig with h | h
    · have h0 : ((s.size : Int) == 0) = true := by rw [h]; rfl
      clear h
      go_enter Tryd.func6/-f-/, Tryd.ntmps6/-f-/
      go_wp2_with (go_at_call 9/-f-/; refine (awake_any _ hT).mono ?_; rintro e w1 ⟨rfl, hb1⟩)
      go_ret
      exact ⟨rfl, hb1⟩
    · have h0 : ((s.size : Int) == 0) = false := beq_eq_false_iff_ne.2 (by omega)
      go_enter Tryd.func6/-f-/, Tryd.ntmps6/-f-/
      go_wp2_with (go_at_call 9/-f-/; refine (awake_any _ hT).mono ?_; rintro e w1 ⟨rfl, hb1⟩)
      go_ret
      exact ⟨rfl, hb1⟩
  have h0 : ((s.size : Int) == 0) = false := beq_eq_false_iff_ne.2 (by omega)
  have hs0 : 0 < s.size := by omega
  have hs1 : s.size ≤ 1500 := by omega
  obtain ⟨x, rfl⟩ : ∃ x : Nat, x0 = x := ⟨x0.toNat, by omega⟩
  have HX := Lib.hid (show x < 18446744073709551616 by omega)
  have HT := Lib.hid hT
  obtain ⟨k, hk, hkv⟩ := uint_rem8 at_ s.size hs0 (by omega)
  clear hbig hx0 hx1 hT
  go_enter Tryd.func6/-f-/, Tryd.ntmps6/-f-/
  go_upto_region 4 with (go_at_call 21/-f-/; refine (turned_any s k x _ hs0 (by omega) (by omega) HX.out).mono ?_; rintro e w1 ⟨⟨T, rfl, hTs, hTle⟩, hb1⟩)
  have HTS := Lib.hid hTs
  have HTLE := Lib.hid hTle
  have hTz : T.size ≤ 1500 := by omega
  have HTab1 := Lib.hid (HT.out.below hb1 HT.out.lt)
  clear hTs hTle
  have HB1 := Lib.hid hb1
  clear hb1
  go_cut [45] (fun v wx => v = .bool false ∧ Below w.heap.size w wx)
  case first =>
    by_cases hts : T = s
    · have hq : (T.toList == s.toList) = true := by rw [hts]; exact beq_self_eq_true _
      clear hts
      go_wp2
      go_meet
      exact ⟨rfl, HB1.out⟩
    · have hsum : ¬ (Crc.sum T.data.toList = Crc.sum s.data.toList) := fun e => hts (by
        have := (sum_turned (by simpa using HTS.out) k _ (burst_lt s.size k x) (by simp; omega) HTLE.out).1 e
        exact ByteArray.ext (Array.toList_inj.1 this))
      have hsb : (((Crc.sum T.data.toList : Nat) : Int) == ((Crc.sum s.data.toList : Nat) : Int)) = false := beq_eq_false_iff_ne.2 (by omega)
      have hq : (T.toList == s.toList) = false := beq_eq_false_iff_ne.2 (by
        rw [ByteArray.toList_eq, ByteArray.toList_eq]; intro h; exact hts (ByteArray.ext (Array.toList_inj.1 h)))
      clear hsum hts
      go_wp2_with (first | (go_at_call 12/-f-/; refine (of_one _ _ HTab1.out (by omega)).mono ?_; rintro e w2 ⟨rfl, hb2⟩; have HTab2 := Lib.hid (HTab1.out.below hb2 HTab1.out.lt)) | (go_at_call 12/-f-/; refine (of_one _ _ HTab2.out (by omega)).mono ?_; rintro e w3 ⟨rfl, hb3⟩))
      all_goals
        go_meet
        exact ⟨rfl, (HB1.out.trans (hb2.mono HB1.out.size)).trans (hb3.mono (by have := HB1.out.size; have := hb2.size; omega))⟩
  case rest v45 =>
    obtain ⟨rfl, hbc⟩ := hcut
    have hsl : s.data.toList.length = s.size := by simp
    have HTc := Lib.hid (HT.out.below hbc HT.out.lt)
    have HBC := Lib.hid hbc
    have FR := Lib.hid (fun (W : World) (hq : QT W) => frame_ok (some ⟨W.heap.size, 0, none⟩) 1 1 [s] _ (strs_one (Blk.new W 9 #[.string s])) (hq.below ((Below.refl _ _).alloc (Nat.le_refl _) _) hq.lt) rfl (by omega) (fun x hx => by simp at hx; subst hx; omega) (by rw [show cat [s] = s.data.toList from by simp [cat]]; omega))
    rw [show cat [s] = s.data.toList from by simp [cat]] at FR
    have hfl : (ByteArray.mk (framed s.data.toList).toArray).size = s.size + 12 := by rw [← hsl, ← framed_len]; simp [ByteArray.size]
    have HFD := Lib.hid (show (ByteArray.mk (framed s.data.toList).toArray).data.toList = framed s.data.toList from rfl)
    clear hsl hbc hkv
    generalize (ByteArray.mk (framed s.data.toList).toArray) = F at *
    have hfl2 : 13 ≤ F.size := by omega
    have hfl3 : F.size ≤ 1600 := by omega
    obtain ⟨k2, hk2, hkv2⟩ := uint_rem32 at_ F.size hfl2 (by omega)
    have HFL := Lib.hid hfl
    clear hfl
    go_upto_region 10 with (first | (go_at_call 11/-f-/; refine (FR.out _ HTc.out).mono ?_; rintro e w2 ⟨rfl, hb2⟩; have HTab2 := Lib.hid (HTc.out.below (((Below.refl _ _).alloc (Nat.le_refl _) _).trans (hb2.mono (by simp))) HTc.out.lt)) | (go_at_call 21/-f-/; refine (turned_any F (32 + k2) x _ (by omega) (by omega) (by omega) HX.out).mono ?_; rintro e w3 ⟨⟨G, rfl, hGs, hGle⟩, hb3⟩))
    have HO := Lib.hid (opened_turned s.data.toList G.data.toList (by simp; omega) (by rw [← HFD.out]; simpa using hGs) (32 + k2) _ (burst_lt F.size (32 + k2) x) (by omega) (by rw [← HFD.out]; simp; omega) (by rw [← HFD.out]; exact hGle))
    have hbx : Below wc.heap.size wc w3 := ((((Below.refl _ _).alloc (Nat.le_refl _) _).trans (hb2.mono (by simp))).trans (hb3.mono (by have := hb2.size; simp at this; omega)))
    have HTab3 := Lib.hid (HTc.out.below hbx HTc.out.lt)
    have HBX := Lib.hid hbx
    have OP := Lib.hid (fun W h => open_any G W h (by omega))
    clear hGs hGle hbx hb2 hb3
    have HQ := Lib.hid (show (G.toList == F.toList) = (((opened G.data.toList).2.2 : Int) == 0) from by
      by_cases h : G.data.toList = framed s.data.toList
      · have h1 := HO.out.2 h
        rw [h1, ByteArray.toList_eq, ByteArray.toList_eq, h, HFD.out]
        simp
      · have h1 : ¬ (opened G.data.toList).2.2 = 0 := fun e => h (HO.out.1 e)
        rw [beq_eq_false_iff_ne.2 (show G.toList ≠ F.toList from by rw [ByteArray.toList_eq, ByteArray.toList_eq, HFD.out]; exact h)]
        exact (beq_eq_false_iff_ne.2 (by omega)).symm)
    generalize (opened G.data.toList).1 = o1 at *
    generalize (opened G.data.toList).2.1 = o2 at *
    generalize (opened G.data.toList).2.2 = o3 at *
    by_cases h3 : ((o3 : Int) == 0) = true
    · have hq : (G.toList == F.toList) = true := HQ.out.trans h3
      go_wp2_with (first
        | (go_at_call 16/-f-/; refine (OP.out _ HTab3.out).mono ?_; rintro e w4 ⟨rfl, hb4⟩; have HTab4 := Lib.hid (HTab3.out.below hb4 HTab3.out.lt))
        | (go_at_call 9/-f-/; refine (awake_any _ HTab4.out).mono ?_; rintro e w5 ⟨rfl, hb5⟩))
      go_ret
      exact ⟨rfl, ((HBC.out.trans (HBX.out.mono HBC.out.size)).trans (hb4.mono (by have := HBC.out.size; have := HBX.out.size; omega))).trans (hb5.mono (by have := HBC.out.size; have := HBX.out.size; have := hb4.size; omega))⟩
    · have h3' : ((o3 : Int) == 0) = false := by simpa using h3
      clear h3
      have hq : (G.toList == F.toList) = false := HQ.out.trans h3'
      go_wp2_with (first
        | (go_at_call 16/-f-/; refine (OP.out _ HTab3.out).mono ?_; rintro e w4 ⟨rfl, hb4⟩; have HTab4 := Lib.hid (HTab3.out.below hb4 HTab3.out.lt))
        | (go_at_call 9/-f-/; refine (awake_any _ HTab4.out).mono ?_; rintro e w5 ⟨rfl, hb5⟩))
      go_ret
      exact ⟨rfl, ((HBC.out.trans (HBX.out.mono HBC.out.size)).trans (hb4.mono (by have := HBC.out.size; have := HBX.out.size; omega))).trans (hb5.mono (by have := HBC.out.size; have := HBX.out.size; have := hb4.size; omega))⟩
theorem own : ownKnob Tryd.prog.godebug = none := by kernel_rfl
theorem laidOut : laidOutB Tryd.prog = true := by kernel_rfl
set_option maxRecDepth 100000 in
theorem contract (H : Type) (enc : TypeId × Value → H) (W : World) (base : Nat) (args : Array Value) (ds gs : List (DataW H)) (before : List MemPlace)
    (hval : ∀ (j : Nat) t v, Tryd.f6.params[j]? = some t → args[j]? = some v → Value.okWide Tryd.prog W .any base t v)
    (hW : DataW.Whole enc Tryd.prog Tryd.f6.params.toList Rows.sealTurnedSpec.vars false W args.toList ds gs before) (hL : laidMetH Tryd.prog Rows.sealTurnedRow.laid W) :
    Calls Tryd.prog 6 args W fun e W' => ∃ v, e = .returned v ∧ Rows.sealTurnedSpec.post enc Tryd.prog Tryd.f6 false true false false W args v W' := by
  have hW' := hW
  have tb := table hL
  obtain ⟨p, q, hA0, hV, rfl, hfz, hnd⟩ := hW
  have hA : DataW.TrodAll enc Tryd.prog W 0 (fun _ => true) true Tryd.f6.params.toList args.toList ds p := hA0
  rw [Tryd.params6] at hA hval
  obtain ⟨v0, vs0, d0, ds0, p0, q0, hargs, rfl, rfl, h0, r0⟩ := trodAll_cons hA
  obtain ⟨v1, vs1, d1, ds1, p1, q1, rfl, rfl, rfl, h1, r1⟩ := trodAll_cons r0
  obtain ⟨v2, vs2, d2, ds2, p2, q2, rfl, rfl, rfl, h2, r2⟩ := trodAll_cons r1
  obtain ⟨rfl, rfl, rfl⟩ := trodAll_nil r2
  obtain rfl : args = #[v0, v1, v2] := by cases args; simp_all
  obtain ⟨rfl, rfl⟩ := trodVars_none hV
  obtain ⟨s0, rfl, rfl, rfl, z0⟩ := Go.ChangeMaps.open_string Tryd.underlying9 (hval 0 9 v0 rfl rfl) h0
  obtain ⟨a1, rfl, rfl, rfl, w1⟩ := open_int Tryd.underlying3 (hval 1 3 v1 rfl rfl) h1
  have b1 := bounds_i64 w1
  obtain ⟨a2, rfl, rfl, rfl, w2⟩ := open_int Tryd.underlying27 (hval 2 27 v2 rfl rfl) h2
  have b2 := bounds_u64 w2
  clear hA0
  refine (walk s0 a1 a2 W tb b2.1 b2.2).mono fun e W' ⟨he, bel⟩ => ?_
  subst he
  exact ⟨_, rfl, _, _, _, [], _, [], hW', trodAll_mk1 (shut_bool Tryd.underlying4 _), (trodAll_cons_mk (Go.ChangeMaps.shut_string Tryd.underlying9 z0) (trodAll_cons_mk (shut_int Tryd.underlying3 w1) (trodAll_cons_mk (shut_int Tryd.underlying27 w2) trodAll_mk0))), rfl, bel.frame _, fun h => by cases h⟩
theorem laid_met (os : Os) : laidMet Tryd.prog Rows.sealTurnedRow.laid ((laidWorld os).forCall (fun _ _ => 0) ⟨#[], #[.string ⟨#[]⟩, .int .i64 0, .int .u64 0], []⟩).memory :=
  laidMet_of_run' 8 (by kernel_rfl) (by kernel_rfl)
theorem reads (os : Os) {H : Type} (enc : TypeId × Value → H) : ∃ places, DataW.whole enc Tryd.prog ((laidWorld os).forCall (fun _ _ => 0) ⟨#[], #[.string ⟨#[]⟩, .int .i64 0, .int .u64 0], []⟩).memory Tryd.f6.params.toList Rows.sealTurnedSpec.vars false (#[.string ⟨#[]⟩, .int .i64 0, .int .u64 0] : Array Value).toList 8 = some ([.lit (.string []), .lit (.int .i64 0), .lit (.int .u64 0)], [], places) :=
  ⟨[], by kernel_rfl⟩
set_option maxRecDepth 100000 in
theorem lifted (os : Os) (started : os.Started) (H : Type) (enc : TypeId × Value → H) (Fi : Stop.Interp) :
    ReturnsInHanded {} Tryd.checked os 6 .any ((OpenSpec.ofChange Rows.sealTurnedSpec).preRow enc Tryd.prog Tryd.f6 Rows.sealTurnedRow.domain false Rows.sealTurnedRow.laid) (((OpenSpec.ofChange Rows.sealTurnedSpec).at Fi).post enc Tryd.prog Tryd.f6 false true false false) := by
  obtain ⟨places, hx⟩ := reads os enc
  refine returnsInHanded_of_row (C := Tryd.checked) (s := OpenSpec.ofChange Rows.sealTurnedSpec) own started (by kernel_rfl) Tryd.func6
    (witness_row_at (enc := enc) (C := Tryd.checked) false (laidWorld os) #[.string ⟨#[]⟩, .int .i64 0, .int .u64 0] rfl (by kernel_rfl) (by kernel_rfl) (by kernel_rfl)
      (OpenSpec.preRow_of_cond 8 hx (by kernel_rfl) (fun k hk => by cases hk) (by kernel_rfl) (laid_met os))) ?_
  intro W base args ds gs before hval hW _ _ _ hL _ _
  exact contract H enc W base args ds gs before hval hW hL
theorem said : Rows.SealTurnedSaid :=
  OpenClaim.holds_of_cond 6 Tryd.f6 rfl rfl rfl rfl rfl rfl rfl ⟨rfl, rfl, rfl, rfl, rfl⟩ rfl rfl rfl rfl rfl (by kernel_rfl) Tryd.func6 (by kernel_rfl)
    (of_decide_eq_true (by kernel_rfl)) (by unfold Func.isWrapper; first | (rw [if_pos (by decide +kernel)]; kernel_rfl) | (rw [if_neg (by decide +kernel)]; exact ⟨rfl, rfl⟩))
    (fun os started H enc _ Fi => by rw [OpenClaim.pre_eq_preRow]; exact lifted os started H enc Fi)
theorem plain (f : FuncId) (fn : Func) (hf : Tryd.pinned.checked.prog.funcNamed "afflux/affluxlaw05.SealTurned" = some f) (hfn : Tryd.pinned.checked.prog.funcs[f]? = some fn) :
    false = Tryd.pinned.checked.prog.looks [] ∧ ∀ (j : Nat) t, fn.params[j]? = some t → Tryd.pinned.checked.prog.wantsStandIn t = false := by
  obtain rfl : f = 6 := Option.some.inj ((show Tryd.prog.funcNamed "afflux/affluxlaw05.SealTurned" = some 6 by kernel_rfl).symm.trans hf) |>.symm
  obtain rfl : fn = Tryd.f6 := (Option.some.inj (Tryd.func6.symm.trans hfn)).symm
  refine ⟨by kernel_rfl, fun j t ht => ?_⟩
  rw [Tryd.params6] at ht
  have hm := Array.mem_of_getElem? ht
  simp only [List.mem_toArray, List.mem_cons, List.not_mem_nil, or_false] at hm
  rcases hm with rfl | rfl | rfl
  · exact (show Tryd.prog.wantsStandIn 9 = false by kernel_rfl)
  · exact (show Tryd.prog.wantsStandIn 3 = false by kernel_rfl)
  · exact (show Tryd.prog.wantsStandIn 27 = false by kernel_rfl)
theorem proved : Rows.SealTurnedCardSaid :=
  Claim7.holds_tied_plain_at .later [] _ _ _ _ said (fun _ h => by cases h) (by kernel_rfl) (fun _ h => by cases h) sealTurned_row_tie rfl ⟨rfl, rfl⟩ (by kernel_rfl) rfl plain (by kernel_rfl)

end Go.Proofs.YtmmgicomidpmhaaDoor.SealTurned

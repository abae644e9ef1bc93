/- StreamFits: whether any rows fit any columns; whether two batches are the same. No condition. -/
import Derived.Test.YtacangeamdcgdaaRows
import Derived.Test.YtacangeamdcgdaaStr
namespace Go.Proofs.Ytacangeamdcgdaa.StreamFits
open Go.ChangeShapes Go.WideShapes Go.ChangeAt Go.RowKit Go.Deep
theorem greatl_no {nm : ByteArray} {cs : List Col} {bs : List Bat} (h : greatL nm cs bs = false) : cs.length ≤ 12 ∧ bs.length ≤ 40 ∧ ∀ b ∈ bs, b.rows.length ≤ 40 ∧ ∀ r ∈ b.rows, r.length ≤ 30 := by
  unfold greatL at h
  rw [Bool.or_eq_false_iff, Bool.or_eq_false_iff, decide_eq_false_iff_not, List.any_eq_false] at h
  refine ⟨(greatS_no h.1.1).1, by omega, fun b hb => ?_⟩
  have hb2 : badB b = false := by simpa using h.2 b hb
  unfold badB at hb2
  rw [Bool.or_eq_false_iff, decide_eq_false_iff_not, List.any_eq_false] at hb2
  exact ⟨by omega, fun r hr => (great_no (by simpa using hb2.2 r hr)).1⟩
theorem bats_at {w : World} {A : Option Addr} {bs : List Bat} (h : Bats w A bs) {k : Nat} (hk : k < bs.length) : ∃ b off, A = some ⟨b, off, none⟩ ∧ b < w.heap.size ∧ ∃ Ai ci, w.cell? ⟨b, off + k * 2, none⟩ = some (.int .i64 (bs.getD k default).id) ∧ w.cell? ⟨b, off + k * 2 + 1, none⟩ = some (.slice Ai (bs.getD k default).rows.length ci) ∧ Rowz w Ai (bs.getD k default).rows := by
  rcases h with h | ⟨b, off, h1, h2, h3⟩
  · subst h; simp at hk
  · obtain ⟨Ai, ci, a1, a2, a3⟩ := h3 k hk
    exact ⟨b, off, h1, h2, Ai, ci, a1, a2, a3⟩
set_option maxRecDepth 100000 in
set_option maxHeartbeats 16000000 in
theorem walk (A : Option Addr) (n c : Nat) (B : Option Addr) (m d : Nat) (cs : List Col) (bs : List Bat) (w : World) (hA : Cols w A cs) (hn : cs.length = n) (hn9 : n ≤ 9223372036854775807) (hnc : n ≤ c) (hcf : ∀ x ∈ cs, FitC x) (hB : Bats w B bs) (hm : bs.length = m) (hm9 : m ≤ 9223372036854775807) (hbf : ∀ x ∈ bs, FitB x) :
    Calls Try.prog 5/-f-/ #[.slice A n c, .slice B m d] w fun e w' => e = .returned (.bool true) ∧ Below w.heap.size w w' := by
  subst hn hm
  have AW := Lib.hid awake_any
  have GL' := greatl_any ⟨#[]⟩ A c cs B d bs w (by decide) hA hn9 hnc hcf hB hm9 hbf
  obtain ⟨q, hq⟩ : ∃ q, q = greatL ⟨#[]⟩ cs bs := ⟨_, rfl⟩
  rw [← hq] at GL'
  have GL := Lib.hid GL'
  have HQ := Lib.hid hq
  clear GL' hq
  cases q with
  | true =>
    go_enter Try.func5, Try.ntmps5
    go_wp2_with (first
      | (go_at_call 9/-f-/; (with_reducible refine GL.out.mono ?_); rintro e w2 ⟨rfl, hb2⟩; have HB2 := Lib.hid hb2; clear hb2)
      | (go_at_call 10/-f-/; (with_reducible refine (AW.out _).mono ?_); rintro e w9 ⟨rfl, hb9⟩; have HB9 := Lib.hid (HB2.out.trans (hb9.mono HB2.out.size)); clear hb9))
    go_ret
    exact ⟨rfl, HB9.out⟩
  | false =>
  obtain ⟨hc12, hb40, hrows⟩ := greatl_no HQ.out.symm
  have HA := Lib.hid hA
  have HBS := Lib.hid hB
  have HBF := Lib.hid hbf
  have HCF := Lib.hid hcf
  have HRW := Lib.hid hrows
  clear hA hB hbf hcf hrows
  go_enter Try.func5, Try.ntmps5
  go_wp2_with (go_at_call 9/-f-/; (with_reducible refine GL.out.mono ?_); rintro e w2 ⟨rfl, hb2⟩; have HB2 := Lib.hid hb2; clear hb2)
  go_loopw [5] (fun i wr => ∃ k : Nat, k ≤ bs.length ∧ i = .int .i64 k ∧ Hid (Below w.heap.size w wr)) (fun i _ => bs.length - (intOf i).toNat)
  case atStart => exact ⟨0, Nat.zero_le _, rfl, HB2⟩
  case round =>
    obtain ⟨k, hk, rfl, hbl⟩ := hrel
    obtain ⟨wx, rfl⟩ : ∃ x, x = wr := ⟨wr, rfl⟩
    have hsz := hbl.out.size
    by_cases hlt : k < bs.length
    · obtain ⟨b, off, rfl, hbw, Ai, ci, x0, x1, hrz⟩ := bats_at (HBS.out.keep hbl.out) hlt
      have hM : bs.getD k default ∈ bs := by simp [List.getD, hlt]
      have hfb := HBF.out _ hM
      have hrw := HRW.out _ hM
      have hki : (k : Int) < (bs.length : Int) := by omega
      have hk0 : (0 : Int) ≤ (k : Int) := by omega
      -- the batch ahead
      have PRE : 0 < k → ∃ Aj cj, wx.cell? ⟨b, off + (k - 1) * 2, none⟩ = some (.int .i64 (bs.getD (k - 1) default).id) ∧ wx.cell? ⟨b, off + (k - 1) * 2 + 1, none⟩ = some (.slice Aj (bs.getD (k - 1) default).rows.length cj) ∧ Rowz wx Aj (bs.getD (k - 1) default).rows ∧ bs.getD (k - 1) default ∈ bs := fun h0 => by
        obtain ⟨b', off', e, _, Aj, cj, a1, a2, a3⟩ := bats_at (HBS.out.keep hbl.out) (show k - 1 < bs.length by omega)
        cases e
        exact ⟨Aj, cj, a1, a2, a3, by simp [List.getD, show k - 1 < bs.length by omega]⟩
      generalize bs.getD k default = x at *
      obtain ⟨xi, rs⟩ := x
      simp only at x0 x1 hrz
      have hr1 : ∀ r ∈ rs, r.length ≤ 1000 ∧ ∀ x ∈ r, FitV x := fun r hr => ⟨by have := hrw.2 r hr; omega, (hfb.rows r hr).2⟩
      have hr2 : ∀ r ∈ rs, r.length ≤ 1000000 := fun r hr => by have := (hr1 r hr).1; omega
      have hrl : rs.length ≤ 40 := hrw.1
      have HRZ := Lib.hid hrz
      have FS := Lib.hid (fun W (hb : Below wx.heap.size wx W) => sfits_any A Ai c ci cs rs W ((HA.out.keep hbl.out).keep hb) (hrz.below hb) (by omega) (by omega) hr1)
      have FL := Lib.hid (fun W (hb : Below wx.heap.size wx W) => lfits_any A Ai c ci cs rs W ((HA.out.keep hbl.out).keep hb) (hrz.below hb) (by omega) hnc HCF.out (by omega) hr1)
      have SS' := fun W (hb : Below wx.heap.size wx W) => bsame_any xi xi Ai Ai ci ci rs rs W (hrz.below hb) (hrz.below hb) (by omega) (by omega) hr2 hr2
      rw [show (xi == xi && decide (rs = rs)) = true from by simp] at SS'
      have SS := Lib.hid SS'
      generalize fitsS cs rs = q1 at *
      clear SS' hrz
      have HR := Lib.hid (Below.refl wx.heap.size wx)
      by_cases h0 : 0 < k
      · obtain ⟨Aj, cj, y0, y1, hrz2, hM2⟩ := PRE h0
        have hfb2 := HBF.out _ hM2
        have hrw2 := HRW.out _ hM2
        generalize bs.getD (k - 1) default = y at *
        obtain ⟨yi, rs2⟩ := y
        simp only at y0 y1 hrz2
        have hr3 : ∀ r ∈ rs2, r.length ≤ 1000000 := fun r hr => by have := hrw2.2 r hr; omega
        have hrl2 : rs2.length ≤ 40 := hrw2.1
        have B2 := Lib.hid (fun W (hb : Below wx.heap.size wx W) => bsame_any xi yi Ai Aj ci cj rs rs2 W (HRZ.out.below hb) (hrz2.below hb) (by omega) (by omega) hr2 hr3)
        have L2 := Lib.hid (fun W (hb : Below wx.heap.size wx W) => lsame_any xi yi Ai Aj ci cj rs rs2 W (HRZ.out.below hb) (hrz2.below hb) (by omega) (by omega) hr2 hr3)
        generalize (xi == yi && decide (rs = rs2)) = q2 at *
        have h0d : decide ((0 : Int) < (k : Int)) = true := decide_eq_true (by omega)
        have hwr : IntKind.i64.wrap ((k : Int) - 1) = (k : Int) - 1 := IntWalk.i64_in _ (by omega)
        have hk1 : (0 : Int) ≤ (k : Int) - 1 := by omega
        have hk2 : (k : Int) - 1 < (bs.length : Int) := by omega
        have hk3 : ((k : Int) - 1).toNat = k - 1 := by omega
        have hk4 : (1 : Int) ≤ (k : Int) := by omega
        have hk5 : (k : Int) ≤ (bs.length : Int) := by omega
        have hk6 : 1 ≤ k := by omega
        have hk7 : k ≤ bs.length := by omega
        clear PRE hrw hrw2 hfb hfb2 hM hM2 hr1 hr2 hr3 hrz2
        go_upto_region 6 with fail
        go_region_held3 (fun W => W.cell? ⟨b, off + k * 2, none⟩ = some (.int .i64 xi) ∧ W.cell? ⟨b, off + k * 2 + 1, none⟩ = some (.slice Ai rs.length ci) ∧ W.cell? ⟨b, off + (k - 1) * 2, none⟩ = some (.int .i64 yi) ∧ W.cell? ⟨b, off + (k - 1) * 2 + 1, none⟩ = some (.slice Aj rs2.length cj))
          (first | exact ⟨x0, x1, y0, y1⟩ | (refine ⟨(HH.out.cell (p := ⟨b, off + k * 2, none⟩) hbw).trans x0, (HH.out.cell (p := ⟨b, off + k * 2 + 1, none⟩) hbw).trans x1, (HH.out.cell (p := ⟨b, off + (k - 1) * 2, none⟩) hbw).trans y0, (HH.out.cell (p := ⟨b, off + (k - 1) * 2 + 1, none⟩) hbw).trans y1⟩))
          (first
            | (go_at_call 25/-f-/; (with_reducible refine (FS.out _ HR.out.drew).mono ?_); rintro e w3 ⟨rfl, hb3⟩; have HH := Lib.hid (show Below wx.heap.size wx w3 from ⟨hb3.os, hb3.tape, hb3.output, hb3.size, hb3.block⟩); clear hb3)
            | (go_at_call 15/-f-/; (with_reducible refine (FL.out _ HH.out).mono ?_); rintro e w4 ⟨rfl, hb4⟩; replace HH := Lib.hid (HH.out.trans (hb4.mono HH.out.size)); clear hb4)
            | (go_at_call 26/-f-/; (with_reducible refine (B2.out _ HH.out).mono ?_); rintro e w5 ⟨rfl, hb5⟩; replace HH := Lib.hid (HH.out.trans (hb5.mono HH.out.size)); clear hb5)
            | (go_at_call 23/-f-/; (with_reducible refine (L2.out _ HH.out).mono ?_); rintro e w6 ⟨rfl, hb6⟩; replace HH := Lib.hid (HH.out.trans (hb6.mono HH.out.size)); clear hb6)
            | (go_at_call 26/-f-/; (with_reducible refine (SS.out _ HH.out).mono ?_); rintro e w7 ⟨rfl, hb7⟩; replace HH := Lib.hid (HH.out.trans (hb7.mono HH.out.size)); clear hb7))
        go_wp2
        go_roundw
        case rel => exact ⟨k + 1, hlt, by go_num, Lib.hid (hbl.out.trans (HH.out.mono hsz))⟩
        case measure => simp [intOf]; omega
      · obtain rfl : k = 0 := by omega
        simp only [Nat.zero_mul, Nat.add_zero] at x0 x1
        have hki0 : (0 : Int) < (bs.length : Int) := by omega
        have hone : ((0 : Nat) : Int) = 0 := rfl
        clear PRE hrw hfb hM hr1 hr2 h0 hk hk0
        rw [hone] at hki ⊢
        clear hone
        go_upto_region 6 with fail
        go_region_held3 (fun W => W.cell? ⟨b, off, none⟩ = some (.int .i64 xi) ∧ W.cell? ⟨b, off + 1, none⟩ = some (.slice Ai rs.length ci))
            (first | exact ⟨x0, x1⟩ | (refine ⟨(HH.out.cell (p := ⟨b, off, none⟩) hbw).trans x0, (HH.out.cell (p := ⟨b, off + 1, none⟩) hbw).trans x1⟩))
            (first
              | (go_at_call 25/-f-/; (with_reducible refine (FS.out _ HR.out.drew).mono ?_); rintro e w3 ⟨rfl, hb3⟩; have HH := Lib.hid (show Below wx.heap.size wx w3 from ⟨hb3.os, hb3.tape, hb3.output, hb3.size, hb3.block⟩); clear hb3)
              | (go_at_call 15/-f-/; (with_reducible refine (FL.out _ HH.out).mono ?_); rintro e w4 ⟨rfl, hb4⟩; replace HH := Lib.hid (HH.out.trans (hb4.mono HH.out.size)); clear hb4)
              | (go_at_call 26/-f-/; (with_reducible refine (SS.out _ HH.out).mono ?_); rintro e w7 ⟨rfl, hb7⟩; replace HH := Lib.hid (HH.out.trans (hb7.mono HH.out.size)); clear hb7))
        go_wp2
        go_roundw
        case rel => exact ⟨k + 1, hlt, by go_num, Lib.hid (hbl.out.trans (HH.out.mono hsz))⟩
        case measure => simp [intOf]; omega
    · have hkl : k = bs.length := by omega
      subst hkl
      go_wp2_with (go_at_call 10/-f-/; (with_reducible refine (AW.out _).mono ?_); rintro e w9 ⟨rfl, hb9⟩; have HB9 := Lib.hid (hbl.out.trans (hb9.mono hsz)); clear hb9)
      go_ret
      exact ⟨rfl, HB9.out⟩
theorem own : ownKnob Try.prog.godebug = none := by kernel_rfl
theorem laidOut : laidOutB Try.prog = true := by kernel_rfl
set_option maxRecDepth 100000 in
theorem lifted (os : Os) (started : os.Started) (H : Type) (enc : TypeId × Value → H) :
    ReturnsInHanded {} Try.checked os 5 .any (Rows.streamFitsSpec.pre6 enc Try.prog Try.f5 Rows.streamFitsRow.domain false) (Rows.streamFitsSpec.post enc Try.prog Try.f5 false true false false) := by
  refine returnsInHanded_of_change (C := Try.checked) own started (by kernel_rfl) Try.func5
    (ChangeSpec.witness6 (enc := enc) (C := Try.checked) false ⟨#[], #[.slice none 0 0, .slice none 0 0], []⟩ 8 (by kernel_rfl) (by kernel_rfl) (by kernel_rfl) (by kernel_rfl)) ?_
  intro W base args ds gs before hval0 hW hcnd _
  have hval : ∀ (j : Nat) t v, Try.f5.params[j]? = some t → args[j]? = some v → Value.okWide Try.prog W .any base t v := hval0
  have hW' := hW
  obtain ⟨p, q, hA0, hV, rfl, hfz, hnd⟩ := hW
  have hA : DataW.TrodAll enc Try.prog W 0 (fun _ => true) true Try.f5.params.toList args.toList ds p := hA0
  rw [Try.params5] at hA hval
  obtain ⟨v0, vs0, d0, ds0, p0, q0, hargs, rfl, rfl, h0, r0⟩ := trodAll_cons hA
  obtain ⟨v1, vs1, d1, ds1, p1, q1, rfl, rfl, rfl, h1, r1⟩ := trodAll_cons r0
  obtain ⟨rfl, rfl, rfl⟩ := trodAll_nil r1
  obtain rfl : args = #[v0, v1] := by cases args; simp_all
  obtain ⟨rfl, rfl⟩ := trodVars_none hV
  obtain ⟨a0, len0, cap0, rfl⟩ := okWide_slice Try.underlying22 (hval 0 22 v0 rfl rfl)
  have k0 := h0
  have lt0 : ∀ x ∈ p0, x.block < W.heap.size := by obtain ⟨m, hm⟩ := k0; exact DataW.trod_lt m _ _ _ hm
  obtain ⟨fuel0, hf0⟩ := h0
  have hg0 : DataW.trod enc Try.prog W 0 (fun _ => true) true fuel0 22 [.slice a0 len0 cap0] = some (d0, p0) := by simpa [Value.cells] using hf0
  have o0 := open_cols hg0
  obtain ⟨hl0, hcc0, cs0, hn0, hC0, hfc0⟩ := o0
  obtain ⟨a1, len1, cap1, rfl⟩ := okWide_slice Try.underlying25 (hval 1 25 v1 rfl rfl)
  have k1 := h1
  have lt1 : ∀ x ∈ p1, x.block < W.heap.size := by obtain ⟨m, hm⟩ := k1; exact DataW.trod_lt m _ _ _ hm
  obtain ⟨fuel1, hf1⟩ := h1
  have hg1 : DataW.trod enc Try.prog W 0 (fun _ => true) true fuel1 25 [.slice a1 len1 cap1] = some (d1, p1) := by simpa [Value.cells] using hf1
  have o1 := open_bats hg1
  obtain ⟨hl1, bs1, hn1, hB1, hfb1⟩ := o1
  clear hA0 hval0
  refine (walk a0 len0 cap0 a1 len1 cap1 cs0 bs1 W hC0 hn0 hl0 hcc0 hfc0 hB1 hn1 hl1 hfb1).mono fun e W' ⟨he, bel⟩ => ?_
  subst he
  exact ⟨_, rfl, _, _, _, [], _, [], hW', trodAll_mk1 (shut_bool Try.underlying4 _), (trodAll_cons_mk (Below.trod laidOut (by kernel_rfl) (of_decide_eq_true (by kernel_rfl)) k0 bel lt0) (trodAll_cons_mk (Below.trod laidOut (by kernel_rfl) (of_decide_eq_true (by kernel_rfl)) k1 bel lt1) trodAll_mk0)), rfl, bel.frame _, fun h => by cases h⟩

theorem over : Rows.streamFitsRow.holds Try.pinned (OpenSpec.ofChange Rows.streamFitsSpec) :=
  OpenClaim.holds_of_wide 5 Try.f5 rfl rfl rfl rfl rfl rfl rfl ⟨rfl, rfl, rfl, rfl, rfl⟩ rfl rfl rfl rfl rfl (by kernel_rfl) Try.func5 (by kernel_rfl)
    (of_decide_eq_true (by kernel_rfl)) (by unfold Func.isWrapper; first | (rw [if_pos (by decide +kernel)]; kernel_rfl) | (rw [if_neg (by decide +kernel)]; exact ⟨rfl, rfl⟩))
    (fun os started H enc _ => lifted os started H enc)

theorem proved : Rows.StreamFitsSaid := over

end Go.Proofs.Ytacangeamdcgdaa.StreamFits

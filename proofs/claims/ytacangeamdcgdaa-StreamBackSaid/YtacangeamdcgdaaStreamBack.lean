/- StreamBack: batches that are right, laid, are read as they were; cut off they aren't read. No condition. -/
import Derived.Test.YtacangeamdcgdaaRows
import Derived.Test.YtacangeamdcgdaaSre
import Derived.Laws.DeepStrings4
namespace Go.Proofs.Ytacangeamdcgdaa.StreamBack
open Go.ChangeShapes Go.WideShapes Go.ChangeAt Go.RowKit Go.Deep
set_option maxRecDepth 100000 in
set_option maxHeartbeats 16000000 in
theorem walk (A : Option Addr) (n c : Nat) (B : Option Addr) (m d : Nat) (cs : List Col) (bs : List Bat) (a : Int) (w : World) (hA : Cols w A cs) (hn : cs.length = n) (hn9 : n ≤ 9223372036854775807) (hnc : n ≤ c) (hcf : ∀ x ∈ cs, FitC x) (hB : Bats w B bs) (hm : bs.length = m) (hm9 : m ≤ 9223372036854775807) (hbf : ∀ x ∈ bs, FitB x) (ha : -9223372036854775808 ≤ a ∧ a ≤ 9223372036854775807) :
    Calls Try.prog 7/-f-/ #[.slice A n c, .slice B m d, .int .i64 a] w fun e w' => e = .returned (.bool true) ∧ Below w.heap.size w w' := by
  subst hn hm
  have AW := Lib.hid awake_any
  have GL' := greatl_any ⟨#[]⟩ A c cs B d bs w (by decide) hA hn9 hnc hcf hB hm9 hbf
  obtain ⟨q, hq⟩ : ∃ q, q = greatL ⟨#[]⟩ cs bs := ⟨_, rfl⟩
  rw [← hq] at GL'
  have GL := Lib.hid GL'
  have HQ := Lib.hid hq
  clear GL' hq
  cases q with
  | true =>
    go_enter Try.func7, Try.ntmps7
    go_wp2_with (first
      | (go_at_call 9/-f-/; (with_reducible refine GL.out.mono ?_); rintro e w2 ⟨rfl, hb2⟩; have HB2 := Lib.hid hb2; clear hb2)
      | (go_at_call 10/-f-/; (with_reducible refine (AW.out _).mono ?_); rintro e w9 ⟨rfl, hb9⟩; have HB9 := Lib.hid (HB2.out.trans (hb9.mono HB2.out.size)); clear hb9))
    go_ret
    exact ⟨rfl, HB9.out⟩
  | false =>
  obtain ⟨hc12, hb40, hrows⟩ := greatl_no HQ.out.symm
  have HA := Lib.hid hA
  have HBS := Lib.hid hB
  have HBF := Lib.hid hbf
  have HCF := Lib.hid hcf
  have HRW := Lib.hid hrows
  clear hA hB hbf hcf hrows
  by_cases hc8 : 8 < cs.length
  · have hc8i : (8 : Int) < (cs.length : Int) := by omega
    go_enter Try.func7, Try.ntmps7
    go_wp2_with (first
      | (go_at_call 9/-f-/; (with_reducible refine GL.out.mono ?_); rintro e w2 ⟨rfl, hb2⟩; have HB2 := Lib.hid hb2; clear hb2)
      | (go_at_call 10/-f-/; (with_reducible refine (AW.out _).mono ?_); rintro e w9 ⟨rfl, hb9⟩; have HB9 := Lib.hid (HB2.out.trans (hb9.mono HB2.out.size)); clear hb9))
    go_ret
    exact ⟨rfl, HB9.out⟩
  have hc8i : ¬ (8 : Int) < (cs.length : Int) := by omega
  go_enter Try.func7, Try.ntmps7
  go_wp2_with (go_at_call 9/-f-/; (with_reducible refine GL.out.mono ?_); rintro e w2 ⟨rfl, hb2⟩; have HB2 := Lib.hid hb2; clear hb2)
  go_loopw [7] (fun i wr => ∃ k : Nat, k ≤ bs.length ∧ i = .int .i64 k ∧ Hid (Below w.heap.size w wr) ∧ Hid (∀ b ∈ bs.take k, 1 ≤ b.id ∧ fitsS cs b.rows = true)) (fun i _ => bs.length - (intOf i).toNat)
  case atStart => exact ⟨0, Nat.zero_le _, rfl, HB2, Lib.hid (fun b hb => by simp at hb)⟩
  case round =>
    obtain ⟨k, hk, rfl, hbl, hall⟩ := hrel
    obtain ⟨wx, rfl⟩ : ∃ x, x = wr := ⟨wr, rfl⟩
    have hsz := hbl.out.size
    by_cases hlt : k < bs.length
    · obtain ⟨b, off, rfl, hbw, Ai, ci, x0, x1, hrz⟩ := bats_at (HBS.out.keep hbl.out) hlt
      have hM : bs.getD k default ∈ bs := by simp [List.getD, hlt]
      have hfb := HBF.out _ hM
      have hrw := HRW.out _ hM
      have HT := Lib.hid (show bs.take (k + 1) = bs.take k ++ [bs.getD k default] from by rw [List.take_succ_eq_append_getElem hlt]; simp [List.getD, List.getElem?_eq_getElem hlt])
      generalize bs.getD k default = x at *
      obtain ⟨xi, rs⟩ := x
      simp only at x0 x1 hrz
      have hr1 : ∀ r ∈ rs, r.length ≤ 1000 ∧ ∀ x ∈ r, FitV x := fun r hr => ⟨by have := hrw.2 r hr; omega, (hfb.rows r hr).2⟩
      have hrl : rs.length ≤ 40 := hrw.1
      have FL' := lfits_any A Ai c ci cs rs wx (HA.out.keep hbl.out) hrz (by omega) hnc HCF.out (by omega) hr1
      obtain ⟨q1, hq1⟩ : ∃ q, q = fitsS cs rs := ⟨_, rfl⟩
      rw [← hq1] at FL'
      have FL := Lib.hid FL'
      have HQ1 := Lib.hid hq1
      clear FL' hq1 hM hfb hrw hrz hr1
      by_cases hid1 : xi < 1
      · go_wp2_with (first
          | (go_at_call 10/-f-/; (with_reducible refine (AW.out _).mono ?_); rintro e w9 ⟨rfl, hb9⟩; have HB9 := Lib.hid (hbl.out.trans (hb9.mono hsz)); clear hb9))
        go_ret
        exact ⟨rfl, HB9.out⟩
      · cases q1 with
        | false =>
          go_wp2_with (first
            | (go_at_call 15/-f-/; (with_reducible refine FL.out.mono ?_); rintro e w4 ⟨rfl, hb4⟩; have HH := Lib.hid (hbl.out.trans (hb4.mono hsz)); clear hb4)
            | (go_at_call 10/-f-/; (with_reducible refine (AW.out _).mono ?_); rintro e w9 ⟨rfl, hb9⟩; have HB9 := Lib.hid (HH.out.trans (hb9.mono HH.out.size)); clear hb9))
          go_ret
          exact ⟨rfl, HB9.out⟩
        | true =>
          have HN := Lib.hid (show ∀ b ∈ bs.take (k + 1), 1 ≤ b.id ∧ fitsS cs b.rows = true from by
            rw [HT.out]
            intro b hb
            rcases List.mem_append.1 hb with hb | hb
            · exact hall.out b hb
            · obtain rfl : b = ⟨xi, rs⟩ := by simpa using hb
              exact ⟨by simp only; omega, HQ1.out.symm⟩)
          go_wp2_with (first
            | (go_at_call 15/-f-/; (with_reducible refine FL.out.mono ?_); rintro e w4 ⟨rfl, hb4⟩; have HH := Lib.hid (hbl.out.trans (hb4.mono hsz)); clear hb4))
          go_roundw
          case rel => exact ⟨k + 1, hlt, by go_num, HH, HN⟩
          case measure => simp [intOf]; omega
    · have hkl : k = bs.length := by omega
      subst hkl
      rw [List.take_length] at hall
      have hok : ∀ b ∈ bs, OkB cs b := fun b hb => ⟨⟨(hall.out b hb).1, (HBF.out b hb).id.2⟩, (hall.out b hb).2, fun r hr v hv => ((HBF.out b hb).rows r hr).2 v hv |>.n⟩
      have hbf : ∀ b ∈ bs, b.id ≤ 9223372036854775807 ∧ -9223372036854775808 ≤ b.id ∧ b.rows.length ≤ 40 ∧ ∀ r ∈ b.rows, r.length ≤ 30 ∧ ∀ x ∈ r, FitV x := fun b hb => ⟨(HBF.out b hb).id.2, (HBF.out b hb).id.1, (HRW.out b hb).1, fun r hr => ⟨(HRW.out b hb).2 r hr, ((HBF.out b hb).rows r hr).2⟩⟩
      have SB' := sbytes_any B d bs wx (HBS.out.keep hbl.out) hb40 hbf
      have hlen : (batsW bs).length ≤ 10200009 := by
        have h1 := flat_len batW 252378 bs (fun x hx => by have h := hbf x hx; exact bat_len40 x h.1 h.2.2.1 h.2.2.2)
        have h2 := num_len9 bs.length (by omega)
        unfold batsW
        rw [List.length_append]; omega
      obtain ⟨S, hS⟩ : ∃ S : ByteArray, S = ⟨(batsW bs).toArray⟩ := ⟨_, rfl⟩
      rw [← hS] at SB'
      have SB := Lib.hid SB'
      have hSl : S.data.toList = batsW bs := by rw [hS]
      have hSz : S.size = (batsW bs).length := by rw [hS]; simp [ByteArray.size]
      have hbl1 := bats_len bs
      have hSp : 0 < S.size := by omega
      have hSm : S.size ≤ 10200009 := by omega
      have hS0 : ((S.size : Int) == 0) = false := beq_eq_false_iff_ne.2 (by omega)
      have R1 := Lib.hid (fun W (h : Cols W A cs) => read_yes S A c cs bs W h (by omega) (by omega) (by rw [hSl]; exact readB_all cs bs (by omega) (by omega) hok))
      obtain ⟨i, hi, hiS⟩ : ∃ i : Nat, wrap64 ((IntKind.u64.wrap a).tmod (S.size : Int)) = (i : Int) ∧ i < S.size := by
        have h0 : 0 ≤ IntKind.u64.wrap a := by rw [IntKind.wrap_u64]; omega
        have h1 : (IntKind.u64.wrap a).tmod (S.size : Int) = IntKind.u64.wrap a % (S.size : Int) := Int.tmod_eq_emod_of_nonneg h0
        have h2 := Int.emod_nonneg (IntKind.u64.wrap a) (show (S.size : Int) ≠ 0 by omega)
        have h3 := Int.emod_lt_of_pos (IntKind.u64.wrap a) (show (0 : Int) < (S.size : Int) by omega)
        refine ⟨(IntKind.u64.wrap a % (S.size : Int)).toNat, ?_, by omega⟩
        rw [h1, IntWalk.wrap64_in _ (by omega)]; omega
      have hez : (S.extract 0 i).size ≤ 100000000 := by rw [ByteArray.size_extract]; omega
      have hpl : (S.extract 0 i).data.toList = (batsW bs).take i := by rw [← hSl]; simp
      have R2 := Lib.hid (fun W (h : Cols W A cs) => read_no (S.extract 0 i) A c cs W h (by omega) hez (by rw [hpl]; exact readB_cut cs bs (by omega) (by omega) hok i (by omega)))
      have HOK := Lib.hid hok
      clear SB' hS hSl hSz hez hpl hok hbf
      go_wp2_with (first
        | (go_at_call 32/-f-/; (with_reducible refine SB.out.mono ?_); rintro e w3 ⟨rfl, hb3⟩; have HB3 := Lib.hid (hbl.out.trans (hb3.mono hsz)); clear hb3)
        | (go_at_call 31/-f-/; (with_reducible refine (R1.out _ (HA.out.keep HB3.out)).mono ?_); rintro e w4 ⟨⟨G, gd, rfl, hG⟩, hb4⟩; have HG := Lib.hid hG; have HB4 := Lib.hid (HB3.out.trans (hb4.mono HB3.out.size)); clear hG hb4))
      have HB4s := HB4.out.size
      go_loopw [11] (fun i wr => ∃ k : Nat, k ≤ bs.length ∧ i = .int .i64 k ∧ Hid (Below w4.heap.size w4 wr)) (fun i _ => bs.length - (intOf i).toNat)
      case atStart => exact ⟨0, Nat.zero_le _, rfl, Lib.hid (Below.refl _ _)⟩
      case round =>
        obtain ⟨k, hk, rfl, hbk⟩ := hrel
        obtain ⟨wy, rfl⟩ : ∃ x, x = wr := ⟨wr, rfl⟩
        have hszk := hbk.out.size
        have HBK := Lib.hid (HB4.out.trans (hbk.out.mono HB4s))
        by_cases hlt : k < bs.length
        · obtain ⟨b1, off1, rfl, hbw1, Ai, ci, x0, x1, hrz⟩ := bats_at (HG.out.keep hbk.out) hlt
          obtain ⟨b2, off2, rfl, hbw2, Aj, cj, y0, y1, hrz2⟩ := bats_at (HBS.out.keep HBK.out) hlt
          have hM : bs.getD k default ∈ bs := by simp [List.getD, hlt]
          have hrw := HRW.out _ hM
          have hki : (k : Int) < (bs.length : Int) := by omega
          have hk0 : (0 : Int) ≤ (k : Int) := by omega
          generalize bs.getD k default = x at *
          obtain ⟨xi, rs⟩ := x
          simp only at x0 x1 y0 y1 hrz hrz2
          have hr2 : ∀ r ∈ rs, r.length ≤ 1000000 := fun r hr => by have := hrw.2 r hr; omega
          have hrl : rs.length ≤ 40 := hrw.1
          have SS' := fun W (hb : Below wy.heap.size wy W) => lsame_any xi xi Ai Aj ci cj rs rs W (hrz.below hb) (hrz2.below hb) (by omega) (by omega) hr2 hr2
          rw [show (xi == xi && decide (rs = rs)) = true from by simp] at SS'
          have SS := Lib.hid SS'
          have HR := Lib.hid (Below.refl wy.heap.size wy)
          clear SS' hrz hrz2 hM hrw hr2
          go_upto_region 15 with fail
          go_region_held3 (fun W => W.cell? ⟨b1, off1 + k * 2, none⟩ = some (.int .i64 xi) ∧ W.cell? ⟨b1, off1 + k * 2 + 1, none⟩ = some (.slice Ai rs.length ci) ∧ W.cell? ⟨b2, off2 + k * 2, none⟩ = some (.int .i64 xi) ∧ W.cell? ⟨b2, off2 + k * 2 + 1, none⟩ = some (.slice Aj rs.length cj))
            (first | exact ⟨x0, x1, y0, y1⟩ | (refine ⟨(HH.out.cell (p := ⟨b1, off1 + k * 2, none⟩) hbw1).trans x0, (HH.out.cell (p := ⟨b1, off1 + k * 2 + 1, none⟩) hbw1).trans x1, (HH.out.cell (p := ⟨b2, off2 + k * 2, none⟩) hbw2).trans y0, (HH.out.cell (p := ⟨b2, off2 + k * 2 + 1, none⟩) hbw2).trans y1⟩))
            (first
              | (go_at_call 23/-f-/; (with_reducible refine (SS.out _ HR.out.drew).mono ?_); rintro e w7 ⟨rfl, hb7⟩; have HH := Lib.hid (show Below wy.heap.size wy w7 from ⟨hb7.os, hb7.tape, hb7.output, hb7.size, hb7.block⟩); clear hb7))
          go_wp2
          go_roundw
          case rel => exact ⟨k + 1, hlt, by go_num, Lib.hid (hbk.out.trans (HH.out.mono hszk))⟩
          case measure => simp [intOf]; omega
        · have hkl : k = bs.length := by omega
          subst hkl
          go_wp2_with (first
            | (go_at_call 31/-f-/; (with_reducible refine (R2.out _ (HA.out.keep HBK.out)).mono ?_); rintro e w5 ⟨rfl, hb5⟩; have HB5 := Lib.hid (HBK.out.trans (hb5.mono HBK.out.size)); clear hb5)
            | (go_at_call 10/-f-/; (with_reducible refine (AW.out _).mono ?_); rintro e w9 ⟨rfl, hb9⟩; have HB9 := Lib.hid (HB5.out.trans (hb9.mono HB5.out.size)); clear hb9))
          go_ret
          exact ⟨rfl, HB9.out⟩
theorem own : ownKnob Try.prog.godebug = none := by kernel_rfl
theorem laidOut : laidOutB Try.prog = true := by kernel_rfl
set_option maxRecDepth 100000 in
theorem lifted (os : Os) (started : os.Started) (H : Type) (enc : TypeId × Value → H) :
    ReturnsInHanded {} Try.checked os 7 .any (Rows.streamBackSpec.pre6 enc Try.prog Try.f7 Rows.streamBackRow.domain false) (Rows.streamBackSpec.post enc Try.prog Try.f7 false true false false) := by
  refine returnsInHanded_of_change (C := Try.checked) own started (by kernel_rfl) Try.func7
    (ChangeSpec.witness6 (enc := enc) (C := Try.checked) false ⟨#[], #[.slice none 0 0, .slice none 0 0, .int .i64 0], []⟩ 8 (by kernel_rfl) (by kernel_rfl) (by kernel_rfl) (by kernel_rfl)) ?_
  intro W base args ds gs before hval0 hW hcnd _
  have hval : ∀ (j : Nat) t v, Try.f7.params[j]? = some t → args[j]? = some v → Value.okWide Try.prog W .any base t v := hval0
  have hW' := hW
  obtain ⟨p, q, hA0, hV, rfl, hfz, hnd⟩ := hW
  have hA : DataW.TrodAll enc Try.prog W 0 (fun _ => true) true Try.f7.params.toList args.toList ds p := hA0
  rw [Try.params7] at hA hval
  obtain ⟨v0, vs0, d0, ds0, p0, q0, hargs, rfl, rfl, h0, r0⟩ := trodAll_cons hA
  obtain ⟨v1, vs1, d1, ds1, p1, q1, rfl, rfl, rfl, h1, r1⟩ := trodAll_cons r0
  obtain ⟨v2, vs2, d2, ds2, p2, q2, rfl, rfl, rfl, h2, r2⟩ := trodAll_cons r1
  obtain ⟨rfl, rfl, rfl⟩ := trodAll_nil r2
  obtain rfl : args = #[v0, v1, v2] := by cases args; simp_all
  obtain ⟨rfl, rfl⟩ := trodVars_none hV
  obtain ⟨a0, len0, cap0, rfl⟩ := okWide_slice Try.underlying22 (hval 0 22 v0 rfl rfl)
  have k0 := h0
  have lt0 : ∀ x ∈ p0, x.block < W.heap.size := by obtain ⟨m, hm⟩ := k0; exact DataW.trod_lt m _ _ _ hm
  obtain ⟨fuel0, hf0⟩ := h0
  have hg0 : DataW.trod enc Try.prog W 0 (fun _ => true) true fuel0 22 [.slice a0 len0 cap0] = some (d0, p0) := by simpa [Value.cells] using hf0
  have o0 := open_cols hg0
  obtain ⟨hl0, hcc0, cs0, hn0, hC0, hfc0⟩ := o0
  obtain ⟨a1, len1, cap1, rfl⟩ := okWide_slice Try.underlying25 (hval 1 25 v1 rfl rfl)
  have k1 := h1
  have lt1 : ∀ x ∈ p1, x.block < W.heap.size := by obtain ⟨m, hm⟩ := k1; exact DataW.trod_lt m _ _ _ hm
  obtain ⟨fuel1, hf1⟩ := h1
  have hg1 : DataW.trod enc Try.prog W 0 (fun _ => true) true fuel1 25 [.slice a1 len1 cap1] = some (d1, p1) := by simpa [Value.cells] using hf1
  have o1 := open_bats hg1
  obtain ⟨hl1, bs1, hn1, hB1, hfb1⟩ := o1
  obtain ⟨a2, rfl, rfl, rfl, w2⟩ := open_int Try.underlying3 (hval 2 3 v2 rfl rfl) h2
  have b2 := bounds_i64 w2
  clear hA0 hval0
  refine (walk a0 len0 cap0 a1 len1 cap1 cs0 bs1 a2 W hC0 hn0 hl0 hcc0 hfc0 hB1 hn1 hl1 hfb1 b2).mono fun e W' ⟨he, bel⟩ => ?_
  subst he
  exact ⟨_, rfl, _, _, _, [], _, [], hW', trodAll_mk1 (shut_bool Try.underlying4 _), (trodAll_cons_mk (Below.trod laidOut (by kernel_rfl) (of_decide_eq_true (by kernel_rfl)) k0 bel lt0) (trodAll_cons_mk (Below.trod laidOut (by kernel_rfl) (of_decide_eq_true (by kernel_rfl)) k1 bel lt1) (trodAll_cons_mk (shut_int Try.underlying3 w2) trodAll_mk0))), rfl, bel.frame _, fun h => by cases h⟩

theorem over : Rows.streamBackRow.holds Try.pinned (OpenSpec.ofChange Rows.streamBackSpec) :=
  OpenClaim.holds_of_wide 7 Try.f7 rfl rfl rfl rfl rfl rfl rfl ⟨rfl, rfl, rfl, rfl, rfl⟩ rfl rfl rfl rfl rfl (by kernel_rfl) Try.func7 (by kernel_rfl)
    (of_decide_eq_true (by kernel_rfl)) (by unfold Func.isWrapper; first | (rw [if_pos (by decide +kernel)]; kernel_rfl) | (rw [if_neg (by decide +kernel)]; exact ⟨rfl, rfl⟩))
    (fun os started H enc _ => lifted os started H enc)

theorem proved : Rows.StreamBackSaid := over

end Go.Proofs.Ytacangeamdcgdaa.StreamBack

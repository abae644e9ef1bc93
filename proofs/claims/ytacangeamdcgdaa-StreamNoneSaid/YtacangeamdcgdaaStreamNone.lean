/- StreamNone: of no border, and of no line, nothing comes. No condition. -/
import Derived.Test.YtacangeamdcgdaaRows
import Derived.Test.YtacangeamdcgdaaStp
namespace Go.Proofs.Ytacangeamdcgdaa.StreamNone
open Go.ChangeShapes Go.WideShapes Go.ChangeAt Go.RowKit Go.Deep
/-- What holds between the calls: three batches in memory, and all else as it was. -/
structure KK (w W : World) (i : Int) (A : Option Addr) (n c g h : Nat) : Prop where
  k2 : Blk W w.heap.size 38 #[.int .i64 i, .slice A n c]
  k7 : Blk W g 38 #[.int .i64 0, .slice none 0 0]
  k9 : Blk W h 38 #[.int .i64 0, .slice none 0 0]
  bel : Below w.heap.size w W
theorem KK.keep {w W W' : World} {i : Int} {A : Option Addr} {n c g h : Nat} (k : KK w W i A n c g h) (hb : Below W.heap.size W W') : KK w W' i A n c g h :=
  ⟨k.k2.below hb k.k2.lt, k.k7.below hb k.k7.lt, k.k9.below hb k.k9.lt, k.bel.trans (hb.mono k.bel.size)⟩
theorem KK.cells {w W : World} {i : Int} {A : Option Addr} {n c g h : Nat} (k : KK w W i A n c g h) : W.cell? ⟨w.heap.size, 0, none⟩ = some (.int .i64 i) ∧ W.cell? ⟨w.heap.size, 1, none⟩ = some (.slice A n c) ∧ W.cell? ⟨g, 0, none⟩ = some (.int .i64 0) ∧ W.cell? ⟨g, 1, none⟩ = some (.slice none 0 0) ∧ W.cell? ⟨h, 0, none⟩ = some (.int .i64 0) ∧ W.cell? ⟨h, 1, none⟩ = some (.slice none 0 0) :=
  ⟨(blk2 k.k2).1, (blk2 k.k2).2.1, (blk2 k.k7).1, (blk2 k.k7).2.1, (blk2 k.k9).1, (blk2 k.k9).2.1⟩
set_option maxRecDepth 100000 in
set_option maxHeartbeats 16000000 in
theorem walk (i : Int) (A : Option Addr) (n c : Nat) (rs : List (List Val)) (k : Int) (w : World) (hA : Rowz w A rs) (hn : rs.length = n) (hi : -9223372036854775808 ≤ i ∧ i ≤ 9223372036854775807) (hn9 : n ≤ 9223372036854775807) (hf : ∀ r ∈ rs, r.length ≤ 9223372036854775807 ∧ ∀ x ∈ r, FitV x) :
    Calls Try.prog 8/-f-/ #[.agg #[.int .i64 i, .slice A n c], .int .i64 k] w fun e w' => e = .returned (.bool true) ∧ Below w.heap.size w w' := by
  subst hn
  have b1 := below_alloc w (.cells #[.int .i64 i, .slice A rs.length c] 38)
  have hs1 : (w.alloc (.cells #[.int .i64 i, .slice A rs.length c] 38)).heap.size = w.heap.size + 1 := by simp
  have b2' := below_alloc (w.alloc (.cells #[.int .i64 i, .slice A rs.length c] 38)) (.cells #[.int .i64 i, .slice A rs.length c] 38)
  have b2 := b1.trans (b2'.mono b1.size)
  have kN : Blk ((w.alloc (.cells #[.int .i64 i, .slice A rs.length c] 38)).alloc (.cells #[.int .i64 i, .slice A rs.length c] 38)) (w.heap.size + 1) 38 #[.int .i64 i, .slice A rs.length c] := by
    have h := Blk.new (w.alloc (.cells #[.int .i64 i, .slice A rs.length c] 38)) 38 #[.int .i64 i, .slice A rs.length c]
    rwa [hs1] at h
  have hBats : Bats ((w.alloc (.cells #[.int .i64 i, .slice A rs.length c] 38)).alloc (.cells #[.int .i64 i, .slice A rs.length c] 38)) (some ⟨w.heap.size + 1, 0, none⟩) [⟨i, rs⟩] := by
    refine .inr ⟨w.heap.size + 1, 0, rfl, by simp, fun j hj => ?_⟩
    have : j = 0 := by simp at hj; omega
    subst this
    exact ⟨A, c, (blk2 kN).1, (blk2 kN).2.1, hA.below b2⟩
  have GL' := greatl_any ⟨#[]⟩ none 0 [] (some ⟨w.heap.size + 1, 0, none⟩) 1 [⟨i, rs⟩] _ (by decide) (.inl rfl) (by decide) (by decide) (fun x hx => (by cases hx)) hBats (by show 1 ≤ _; omega) (fun x hx => (by
    have hx' : x = ⟨i, rs⟩ := by simpa using hx
    subst hx'
    exact ⟨hi, hn9, hf⟩))
  have hK2 := (Blk.new w 38 #[.int .i64 i, .slice A rs.length c]).below b2' (by simp)
  generalize greatL ⟨#[]⟩ [] [⟨i, rs⟩] = q at *
  have GL := Lib.hid (show Calls Try.prog 9/-f-/ #[.agg #[.string ⟨#[]⟩, .slice none 0 0], .slice (some ⟨w.heap.size + 1, 0, none⟩) 1 1] ((w.alloc (.cells #[.int .i64 i, .slice A rs.length c] 38)).alloc (.cells #[.int .i64 i, .slice A rs.length c] 38)) fun e w' => e = .returned (.bool q) ∧ Below ((w.alloc (.cells #[.int .i64 i, .slice A rs.length c] 38)).alloc (.cells #[.int .i64 i, .slice A rs.length c] 38)).heap.size ((w.alloc (.cells #[.int .i64 i, .slice A rs.length c] 38)).alloc (.cells #[.int .i64 i, .slice A rs.length c] 38)) w' from GL')
  have HK2 := Lib.hid hK2
  have HB2 := Lib.hid b2
  have AW := Lib.hid awake_any
  clear GL' hBats kN b1 b2 b2' hs1 hK2 hA hf
  cases q with
  | true =>
    go_enter Try.func8, Try.ntmps8
    go_wp2_with (first
      | (go_at_call 9/-f-/; (with_reducible refine GL.out.mono ?_); rintro e w3 ⟨rfl, hb3⟩; have HB3 := Lib.hid (HB2.out.trans (hb3.mono HB2.out.size)); clear hb3)
      | (go_at_call 10/-f-/; (with_reducible refine (AW.out _).mono ?_); rintro e w9 ⟨rfl, hb9⟩; have HB9 := Lib.hid (HB3.out.trans (hb9.mono HB3.out.size)); clear hb9))
    go_ret
    exact ⟨rfl, HB9.out⟩
  | false =>
    have LF := Lib.hid lfirst_nil
    have LT := Lib.hid ltake_nil
    have BN := Lib.hid bname_nil
    have BC := Lib.hid (fun W => bcheck_nil i A rs.length c W)
    have BT := Lib.hid (fun W => btake_nil i A rs.length c W)
    have BM := Lib.hid bmark_nil
    have BS := Lib.hid (fun W => bset_nil k W)
    have LP := Lib.hid (fun W => lput_nil i A rs.length c W)
    have SN := Lib.hid same_nil
    have LL := Lib.hid llen_nil
    have LR := Lib.hid lrows_nil
    have LB := Lib.hid lbatches_nil
    go_enter Try.func8, Try.ntmps8
    go_wp2_with (first
      | (go_at_call 9/-f-/; (with_reducible refine GL.out.mono ?_); rintro e w3 ⟨rfl, hb3⟩; have HB3 := Lib.hid (HB2.out.trans (hb3.mono HB2.out.size)); have HK3 := Lib.hid (HK2.out.below hb3 HK2.out.lt); clear hb3)
      | (go_at_call 21/-f-/; (with_reducible refine (LF.out _).mono ?_); rintro e w4 ⟨rfl, hb4⟩; have b5 := below_alloc w4 (.cells #[.int .i64 0, .slice none 0 0] 38); have HB5 := Lib.hid ((HB3.out.trans (hb4.mono HB3.out.size)).trans (b5.mono (HB3.out.trans (hb4.mono HB3.out.size)).size)); have HK5 := Lib.hid ((HK3.out.below hb4 HK3.out.lt).below b5 (HK3.out.below hb4 HK3.out.lt).lt); have HN7 := Lib.hid (Blk.new w4 38 #[.int .i64 0, .slice none 0 0]); clear hb4 b5)
      | (go_at_call 22/-f-/; (with_reducible refine (LT.out _).mono ?_); rintro e w6 ⟨rfl, hb6⟩; have b7 := below_alloc w6 (.cells #[.int .i64 0, .slice none 0 0] 38); have HBx := Lib.hid (HB5.out.trans (hb6.mono HB5.out.size)); have HKx := Lib.hid (HK5.out.below hb6 HK5.out.lt); have HNx := Lib.hid (HN7.out.below hb6 HN7.out.lt); have K := Lib.hid (KK.mk (h := w6.heap.size) (HKx.out.below b7 HKx.out.lt) (HNx.out.below b7 HNx.out.lt) (Blk.new w6 38 #[.int .i64 0, .slice none 0 0]) (HBx.out.trans (b7.mono HBx.out.size))); clear hb6 b7; obtain ⟨d0, d1, e0, e1, f0, f1⟩ := K.out.cells)
      | (go_at_call 13/-f-/; (with_reducible refine (BN.out _).mono ?_); rintro e w8 ⟨rfl, rfl⟩)
      | (go_at_call 16/-f-/; (with_reducible refine (BC.out _).mono ?_); rintro e w8 ⟨rfl, hb8⟩; replace K := Lib.hid (K.out.keep hb8); clear hb8 d0 d1 e0 e1 f0 f1; obtain ⟨d0, d1, e0, e1, f0, f1⟩ := K.out.cells)
      | (go_at_call 18/-f-/; (with_reducible refine (BT.out _).mono ?_); rintro e w8 ⟨rfl, hb8⟩; replace K := Lib.hid (K.out.keep hb8); clear hb8 d0 d1 e0 e1 f0 f1; obtain ⟨d0, d1, e0, e1, f0, f1⟩ := K.out.cells)
      | (go_at_call 17/-f-/; (with_reducible refine (BM.out _).mono ?_); rintro e w8 ⟨rfl, rfl⟩)
      | (go_at_call 14/-f-/; (with_reducible refine (BS.out _).mono ?_); rintro e w8 ⟨rfl, rfl⟩)
      | (go_at_call 20/-f-/; (with_reducible refine (LP.out _).mono ?_); rintro e w8 ⟨rfl, hb8⟩; replace K := Lib.hid (K.out.keep hb8); clear hb8 d0 d1 e0 e1 f0 f1; obtain ⟨d0, d1, e0, e1, f0, f1⟩ := K.out.cells)
      | (go_at_call 23/-f-/; (with_reducible refine (SN.out _).mono ?_); rintro e w8 ⟨rfl, hb8⟩; replace K := Lib.hid (K.out.keep hb8); clear hb8 d0 d1 e0 e1 f0 f1; obtain ⟨d0, d1, e0, e1, f0, f1⟩ := K.out.cells)
      | (go_at_call 33/-f-/; (with_reducible refine (LL.out _).mono ?_); rintro e w8 ⟨rfl, rfl⟩)
      | (go_at_call 34/-f-/; (with_reducible refine (LR.out _).mono ?_); rintro e w8 ⟨rfl, rfl⟩)
      | (go_at_call 35/-f-/; (with_reducible refine (LB.out _ _ _ _).mono ?_); rintro e w8 ⟨rfl, rfl⟩; have HBL := Lib.hid (K.out.bel.alloc K.out.bel.size (.cells #[.int .i64 k] 3)))
      | (go_at_call 10/-f-/; (with_reducible refine (AW.out _).mono ?_); rintro e w9 ⟨rfl, hb9⟩; have HB9 := Lib.hid (HBL.out.trans (hb9.mono HBL.out.size)); clear hb9))
    go_ret
    exact ⟨rfl, HB9.out⟩
theorem own : ownKnob Try.prog.godebug = none := by kernel_rfl
theorem laidOut : laidOutB Try.prog = true := by kernel_rfl
set_option maxRecDepth 100000 in
theorem lifted (os : Os) (started : os.Started) (H : Type) (enc : TypeId × Value → H) :
    ReturnsInHanded {} Try.checked os 8 .any (Rows.streamNoneSpec.pre6 enc Try.prog Try.f8 Rows.streamNoneRow.domain false) (Rows.streamNoneSpec.post enc Try.prog Try.f8 false true false false) := by
  refine returnsInHanded_of_change (C := Try.checked) own started (by kernel_rfl) Try.func8
    (ChangeSpec.witness6 (enc := enc) (C := Try.checked) false ⟨#[], #[.agg #[.int .i64 0, .slice none 0 0], .int .i64 0], []⟩ 8 (by kernel_rfl) (by kernel_rfl) (by kernel_rfl) (by kernel_rfl)) ?_
  intro W base args ds gs before hval0 hW hcnd _
  have hval : ∀ (j : Nat) t v, Try.f8.params[j]? = some t → args[j]? = some v → Value.okWide Try.prog W .any base t v := hval0
  have hW' := hW
  obtain ⟨p, q, hA0, hV, rfl, hfz, hnd⟩ := hW
  have hA : DataW.TrodAll enc Try.prog W 0 (fun _ => true) true Try.f8.params.toList args.toList ds p := hA0
  rw [Try.params8] at hA hval
  obtain ⟨v0, vs0, d0, ds0, p0, q0, hargs, rfl, rfl, h0, r0⟩ := trodAll_cons hA
  obtain ⟨v1, vs1, d1, ds1, p1, q1, rfl, rfl, rfl, h1, r1⟩ := trodAll_cons r0
  obtain ⟨rfl, rfl, rfl⟩ := trodAll_nil r1
  obtain rfl : args = #[v0, v1] := by cases args; simp_all
  obtain ⟨rfl, rfl⟩ := trodVars_none hV
  have k0 := h0
  have lt0 : ∀ x ∈ p0, x.block < W.heap.size := by obtain ⟨m, hm⟩ := k0; exact DataW.trod_lt m _ _ _ hm
  obtain ⟨i0, A0, c0, rs0, rfl, hr0, hi0, hl0, hf0⟩ := open_bat (hval 0 38 v0 rfl rfl) h0
  obtain ⟨a1, rfl, rfl, rfl, w1⟩ := open_int Try.underlying3 (hval 1 3 v1 rfl rfl) h1
  have b1 := bounds_i64 w1
  clear hA0 hval0
  refine (walk i0 A0 rs0.length c0 rs0 a1 W hr0 rfl hi0 hl0 hf0).mono fun e W' ⟨he, bel⟩ => ?_
  subst he
  exact ⟨_, rfl, _, _, _, [], _, [], hW', trodAll_mk1 (shut_bool Try.underlying4 _), (trodAll_cons_mk (Below.trod laidOut (by kernel_rfl) (of_decide_eq_true (by kernel_rfl)) k0 bel lt0) (trodAll_cons_mk (shut_int Try.underlying3 w1) trodAll_mk0)), rfl, bel.frame _, fun h => by cases h⟩

theorem over : Rows.streamNoneRow.holds Try.pinned (OpenSpec.ofChange Rows.streamNoneSpec) :=
  OpenClaim.holds_of_wide 8 Try.f8 rfl rfl rfl rfl rfl rfl rfl ⟨rfl, rfl, rfl, rfl, rfl⟩ rfl rfl rfl rfl rfl (by kernel_rfl) Try.func8 (by kernel_rfl)
    (of_decide_eq_true (by kernel_rfl)) (by unfold Func.isWrapper; first | (rw [if_pos (by decide +kernel)]; kernel_rfl) | (rw [if_neg (by decide +kernel)]; exact ⟨rfl, rfl⟩))
    (fun os started H enc _ => lifted os started H enc)

theorem proved : Rows.StreamNoneSaid := over

end Go.Proofs.Ytacangeamdcgdaa.StreamNone

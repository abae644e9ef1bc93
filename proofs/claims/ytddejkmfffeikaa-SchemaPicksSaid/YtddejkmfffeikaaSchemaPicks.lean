/- SchemaPicks: whatever row and places: what is picked is what the document picks, nothing where a place isn't there. No condition. -/
import Derived.Test.YtddejkmfffeikaaRows
import Derived.Test.YtddejkmfffeikaaOps
namespace Go.Proofs.Ytddejkmfffeikaa.SchemaPicks
open Go.ChangeShapes Go.WideShapes Go.ChangeAt Go.RowKit Go.Deep
set_option linter.unusedVariables false
set_option maxRecDepth 100000 in
set_option maxHeartbeats 8000000 in
theorem walk (A B : Option Addr) (n m c d : Nat) (vs : List Val) (xs : List Int) (w : World) (hA : Vals w A vs) (hB : Ints w .i64 B xs) (hn : vs.length = n) (hm : xs.length = m) (hf : ∀ x ∈ vs, FitV x) (hx : Fit64 xs) (hs : n ≤ 9223372036854775807) (hs' : m ≤ 9223372036854775807) :
    Calls Try.prog 5/-f-/ #[.slice A n c, .slice B m d] w fun e w' => e = .returned (.bool true) ∧ Below w.heap.size w w' := by
  subst hn hm
  have C1 := Lib.hid (refgreat_any A vs.length c vs w hA rfl hf hs)
  have AW := Lib.hid (awake_any w)
  obtain ⟨q, hq⟩ : ∃ q, q = greatB vs := ⟨_, rfl⟩
  rw [← hq] at C1
  have HQ := Lib.hid hq
  have HA := Lib.hid hA
  have HB := Lib.hid hB
  have HF := Lib.hid hf
  have HX := Lib.hid hx
  clear hq hA hB hf hx
  cases q with
  | true =>
    go_enter Try.func5, Try.ntmps5
    go_wp2_with (first
      | (go_at_call 19/-f-/; refine C1.out.mono ?_; rintro e w1 ⟨rfl, rfl⟩)
      | (go_at_call 8/-f-/; refine AW.out.mono ?_; rintro e w1 ⟨rfl, hb1⟩; have HB1 := Lib.hid hb1))
    go_ret
    exact ⟨rfl, HB1.out⟩
  | false =>
  have hno := great_no HQ.out.symm
  by_cases hbig : 30 < xs.length
  · clear hno
    go_enter Try.func5, Try.ntmps5
    go_wp2_with (first
      | (go_at_call 19/-f-/; refine C1.out.mono ?_; rintro e w1 ⟨rfl, rfl⟩)
      | (go_at_call 8/-f-/; refine AW.out.mono ?_; rintro e w1 ⟨rfl, hb1⟩; have HB1 := Lib.hid hb1))
    go_ret
    exact ⟨rfl, HB1.out⟩
  have hvl := hno.1
  clear hno
  have P := Lib.hid (pick_any A B vs.length c xs.length d vs xs w HA.out HB.out rfl rfl HX.out (by omega) (by omega))
  go_enter Try.func5, Try.ntmps5
  go_wp2_with (go_at_call 19/-f-/; refine C1.out.mono ?_; rintro e w1 ⟨rfl, rfl⟩)
  go_loop [5, 6] (fun t i => ∃ k : Nat, k ≤ xs.length ∧ i = .int .i64 k ∧ t = .bool ((xs.take k).all (inB vs.length))) (fun _ i => xs.length - (intOf i).toNat)
  case atStart => exact ⟨0, Nat.zero_le _, rfl, rfl⟩
  case round =>
    obtain ⟨k, hk, rfl, rfl⟩ := hrel
    by_cases hlt : k < xs.length
    · rcases HB.out with h | ⟨b, off, rfl, hbw, hcell⟩
      · subst h; simp at hlt
      have x0 := hcell k hlt
      have HT := Lib.hid (all_take (inB vs.length) xs k hlt)
      clear hcell
      have h00 : xs.getD k default = xs.getD k 0 := rfl
      rw [h00] at HT
      clear h00
      generalize xs.getD k 0 = x at *
      generalize (xs.take k).all (inB vs.length) = t at *
      cases t with
      | false =>
        go_wp2
        go_round
        case rel => exact ⟨k + 1, by omega, by go_num, by rw [HT.out]; rfl⟩
        case measure => simp [intOf]; omega
      | true =>
        by_cases h0 : 0 ≤ x
        · by_cases h1 : x < vs.length
          · have hi := Lib.hid (show inB vs.length x = true from by unfold inB; rw [decide_eq_true h0, decide_eq_true h1]; rfl)
            go_wp2
            go_round
            case rel => exact ⟨k + 1, by omega, by go_num, by rw [HT.out, hi.out]; rfl⟩
            case measure => simp [intOf]; omega
          · have hi := Lib.hid (show inB vs.length x = false from by unfold inB; rw [decide_eq_false h1]; simp)
            go_wp2
            go_round
            case rel => exact ⟨k + 1, by omega, by go_num, by rw [HT.out, hi.out]; rfl⟩
            case measure => simp [intOf]; omega
        · have hi := Lib.hid (show inB vs.length x = false from by unfold inB; rw [decide_eq_false h0]; rfl)
          go_wp2
          go_round
          case rel => exact ⟨k + 1, by omega, by go_num, by rw [HT.out, hi.out]; rfl⟩
          case measure => simp [intOf]; omega
    · have hkl : k = xs.length := by omega
      subst hkl
      rw [List.take_length]
      obtain ⟨t, ht⟩ : ∃ t, t = xs.all (inB vs.length) := ⟨_, rfl⟩
      rw [← ht]
      have HT := Lib.hid ht
      clear ht
      cases t with
      | false =>
        have HL := Lib.hid (show pickL vs xs = [] from by unfold pickL; rw [if_neg (by rw [← HT.out]; simp)])
        rw [HL.out] at P
        go_wp2_with (first
          | (go_at_call 26/-f-/; refine P.out.mono ?_; rintro e w1 ⟨⟨u, rfl, hu⟩, hb1⟩; obtain ⟨A5, c5, rfl, hv5, _⟩ := hu.vals; have HB1 := Lib.hid hb1; clear hv5 hu hb1)
          | (go_at_call 8/-f-/; refine (awake_any _).mono ?_; rintro e w2 ⟨rfl, hb2⟩; have HB2 := Lib.hid (HB1.out.trans (hb2.mono HB1.out.size)); clear hb2))
        go_ret
        exact ⟨rfl, HB2.out⟩
      | true =>
        have HP := Lib.hid (pick_len vs xs)
        have R := Lib.hid (fun W hW hW2 => refpick_any A B vs.length c xs.length d vs xs W hW hW2 rfl rfl HT.out.symm (by omega) (by omega))
        obtain ⟨L, hL⟩ : ∃ L, L = pickL vs xs := ⟨_, rfl⟩
        rw [← hL] at P R HP
        clear hL
        go_wp2_with (first
          | (go_at_call 26/-f-/; refine P.out.mono ?_; rintro e w1 ⟨⟨u, rfl, hu⟩, hb1⟩; obtain ⟨A5, c5, rfl, hv5, _⟩ := hu.vals; have HB1 := Lib.hid hb1; have HV5 := Lib.hid hv5; clear hv5 hu hb1)
          | (go_at_call 28/-f-/; refine (R.out _ (HA.out.keep HB1.out) (HB.out.keep HB1.out)).mono ?_; rintro e w2 ⟨⟨u, rfl, hu⟩, hb2⟩; obtain ⟨A6, c6, rfl, hv6, _⟩ := hu.vals; have HB2 := Lib.hid (HB1.out.trans (hb2.mono HB1.out.size)); have HV6 := Lib.hid hv6; have HV7 := Lib.hid (HV5.out.keep hb2); clear hv6 hu hb2)
          | (go_at_call 27/-f-/; refine (refsame_any A5 A6 L.length c5 L.length c6 L L _ HV7.out HV6.out rfl rfl (by have := HP.out; omega) (by have := HP.out; omega)).mono ?_; rintro e w3 ⟨rfl, hb3⟩)
          | (go_at_call 8/-f-/; refine (awake_any _).mono ?_; rintro e w4 ⟨rfl, hb4⟩))
        go_ret
        obtain ⟨k, rfl⟩ := hb3
        have HB3 := below_drewN HB2.out k
        exact ⟨rfl, HB3.trans (hb4.mono HB3.size)⟩
theorem own : ownKnob Try.prog.godebug = none := by kernel_rfl
theorem laidOut : laidOutB Try.prog = true := by kernel_rfl
set_option maxRecDepth 100000 in
theorem lifted (os : Os) (started : os.Started) (H : Type) (enc : TypeId × Value → H) :
    ReturnsInHanded {} Try.checked os 5 .any (Rows.schemaPicksSpec.pre6 enc Try.prog Try.f5 Rows.schemaPicksRow.domain false) (Rows.schemaPicksSpec.post enc Try.prog Try.f5 false true false false) := by
  refine returnsInHanded_of_change (C := Try.checked) own started (by kernel_rfl) Try.func5
    (ChangeSpec.witness6 (enc := enc) (C := Try.checked) false ⟨#[], #[.slice none 0 0, .slice none 0 0], []⟩ 8 (by kernel_rfl) (by kernel_rfl) (by kernel_rfl) (by kernel_rfl)) ?_
  intro W base args ds gs before hval0 hW hcnd _
  have hval : ∀ (j : Nat) t v, Try.f5.params[j]? = some t → args[j]? = some v → Value.okWide Try.prog W .any base t v := hval0
  have hW' := hW
  obtain ⟨p, q, hA0, hV, rfl, hfz, hnd⟩ := hW
  have hA : DataW.TrodAll enc Try.prog W 0 (fun _ => true) true Try.f5.params.toList args.toList ds p := hA0
  rw [Try.params5] at hA hval
  obtain ⟨v0, vs0, d0, ds0, p0, q0, hargs, rfl, rfl, h0, r0⟩ := trodAll_cons hA
  obtain ⟨v1, vs1, d1, ds1, p1, q1, rfl, rfl, rfl, h1, r1⟩ := trodAll_cons r0
  obtain ⟨rfl, rfl, rfl⟩ := trodAll_nil r1
  obtain rfl : args = #[v0, v1] := by cases args; simp_all
  obtain ⟨rfl, rfl⟩ := trodVars_none hV
  obtain ⟨a0, len0, cap0, rfl⟩ := okWide_slice Try.underlying35 (hval 0 35 v0 rfl rfl)
  have k0 := h0
  have lt0 : ∀ x ∈ p0, x.block < W.heap.size := by obtain ⟨m, hm⟩ := k0; exact DataW.trod_lt m _ _ _ hm
  obtain ⟨fuel0, hf0⟩ := h0
  have hg0 : DataW.trod enc Try.prog W 0 (fun _ => true) true fuel0 35 [.slice a0 len0 cap0] = some (d0, p0) := by simpa [Value.cells] using hf0
  have o0 := open_vals hg0
  obtain ⟨le0, lc0, vs0, ln0, V0, ff0⟩ := o0
  obtain ⟨a1, len1, cap1, rfl⟩ := okWide_slice Try.underlying32 (hval 1 32 v1 rfl rfl)
  have k1 := h1
  have lt1 : ∀ x ∈ p1, x.block < W.heap.size := by obtain ⟨m, hm⟩ := k1; exact DataW.trod_lt m _ _ _ hm
  obtain ⟨fuel1, hf1⟩ := h1
  have hg1 : DataW.trod enc Try.prog W 0 (fun _ => true) true fuel1 32 [.slice a1 len1 cap1] = some (d1, p1) := by simpa [Value.cells] using hf1
  have o1 := ints_open Try.underlying32 Try.underlying3 (by kernel_rfl) hg1
  obtain ⟨le1, xs1, ln1, I1, wf1⟩ := o1
  clear hA0 hval0
  refine (walk a0 a1 len0 len1 cap0 cap1 vs0 xs1 W V0 I1 ln0 ln1 ff0 (fun n hn => bounds_i64 (wf1 n hn)) le0 le1).mono fun e W' ⟨he, bel⟩ => ?_
  subst he
  exact ⟨_, rfl, _, _, _, [], _, [], hW', trodAll_mk1 (shut_bool Try.underlying4 _), (trodAll_cons_mk (Below.trod laidOut (by kernel_rfl) (of_decide_eq_true (by kernel_rfl)) k0 bel lt0) (trodAll_cons_mk (Below.trod laidOut (by kernel_rfl) (of_decide_eq_true (by kernel_rfl)) k1 bel lt1) trodAll_mk0)), rfl, bel.frame _, fun h => by cases h⟩

theorem over : Rows.schemaPicksRow.holds Try.pinned (OpenSpec.ofChange Rows.schemaPicksSpec) :=
  OpenClaim.holds_of_wide 5 Try.f5 rfl rfl rfl rfl rfl rfl rfl ⟨rfl, rfl, rfl, rfl, rfl⟩ rfl rfl rfl rfl rfl (by kernel_rfl) Try.func5 (by kernel_rfl)
    (of_decide_eq_true (by kernel_rfl)) (by unfold Func.isWrapper; first | (rw [if_pos (by decide +kernel)]; kernel_rfl) | (rw [if_neg (by decide +kernel)]; exact ⟨rfl, rfl⟩))
    (fun os started H enc _ => lifted os started H enc)

theorem proved : Rows.SchemaPicksSaid := over

end Go.Proofs.Ytddejkmfffeikaa.SchemaPicks

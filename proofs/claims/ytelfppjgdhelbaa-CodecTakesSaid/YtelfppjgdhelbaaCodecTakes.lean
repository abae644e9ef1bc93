/- CodecTakes: whatever bytes, whatever is taken of them, one behind the other: a reader answers what the document says. No condition. -/
import Derived.Test.YtelfppjgdhelbaaRows
import Derived.Test.YtelfppjgdhelbaaAsk
namespace Go.Proofs.Ytelfppjgdhelbaa.CodecTakes
open Go.ChangeShapes Go.WideShapes Go.ChangeAt Go.RowKit Go.Deep
set_option linter.unusedVariables false
set_option maxRecDepth 100000 in
set_option maxHeartbeats 8000000 in
theorem walk (s : ByteArray) (A : Option Addr) (n c : Nat) (xs : List Ask) (w : World) (hA : Asks w A xs) (hn : xs.length = n) (hf : ∀ x ∈ xs, FitA x) (hs : s.size ≤ 9223372036854775807) (hs' : n ≤ 9223372036854775807) :
    Calls Try.prog 4/-f-/ #[.string s, .slice A n c] w fun e w' => e = .returned (.bool true) ∧ Below w.heap.size w w' := by
  subst hn
  have HA := Lib.hid hA
  have HF := Lib.hid hf
  clear hA hf
  by_cases hb1 : 3000 < s.size
  · go_enter Try.func4, Try.ntmps4
    go_wp2_with (go_at_call 9/-f-/; (with_reducible refine (awake_any _).mono ?_); rintro e w9 ⟨rfl, hb⟩; have HB9 := Lib.hid hb; clear hb)
    go_ret
    exact ⟨rfl, HB9.out⟩
  by_cases hb2 : 60 < xs.length
  · go_enter Try.func4, Try.ntmps4
    go_wp2_with (go_at_call 9/-f-/; (with_reducible refine (awake_any _).mono ?_); rintro e w9 ⟨rfl, hb⟩; have HB9 := Lib.hid hb; clear hb)
    go_ret
    exact ⟨rfl, HB9.out⟩
  have RD := Lib.hid (fun W => read_any s W (by omega))
  have hs0 : s.size ≤ 3000 := by omega
  have hsl : s.data.toList.length = s.size := by simp
  have HSL := Lib.hid hsl
  clear hsl
  go_enter Try.func4, Try.ntmps4
  go_wp2_with (first
    | (go_at_call 9/-f-/; (with_reducible refine (awake_any _).mono ?_); rintro e w9 ⟨rfl, hb⟩; have HB9 := Lib.hid hb; clear hb)
    | (go_at_call 26/-f-/; (with_reducible refine (RD.out _).mono ?_); rintro e w1 ⟨⟨g, rfl, hg, hr⟩, hb⟩; have HB1 := Lib.hid (HB9.out.trans (hb.mono HB9.out.size)); have HR1 := Lib.hid hr; have hgl : g < w1.heap.size := (by obtain ⟨v, hB, _⟩ := hr; exact hB.lt); have hgw : w.heap.size ≤ g := Nat.le_trans HB9.out.size hg; have hpw : w.heap.size ≤ w1.heap.size := HB1.out.size; clear hb hr hg))
  have HBA := Lib.hid (HB1.out.alloc hpw (.cells #[.string s, .bool false] 58))
  have HRA := Lib.hid (show Rq (w1.alloc (.cells #[.string s, .bool false] 58)) (some ⟨g, 0, none⟩) (some s.data.toList) from .inr ⟨g, rfl, HR1.out.more ((Below.refl _ _).alloc (Nat.le_refl _) _)⟩)
  have HPA := Lib.hid (show Pt (w1.alloc (.cells #[.string s, .bool false] 58)) w1.heap.size (some s.data.toList) from ⟨s, Blk.new _ _ _, by omega, fun l h => by cases h; rfl⟩)
  have hNS : ¬ Sq (some ⟨g, 0, none⟩) w1.heap.size := by intro h; unfold Sq at h; simp only [Option.some.injEq, Addr.mk.injEq, and_true] at h; omega
  have HNS := Lib.hid hNS
  clear HR1 HB1 hNS RD
  generalize w1.heap.size = P at *
  generalize w1.alloc (.cells #[.string s, .bool false] 58) = wb at *
  go_loopw [7] (fun i wr => ∃ (k : Nat) (st : Option (List UInt8)), k ≤ xs.length ∧ i = .int .i64 k ∧ Rq wr (some ⟨g, 0, none⟩) st ∧ Pt wr P st ∧ (st.getD []).length ≤ 3000 ∧ Below w.heap.size w wr) (fun i _ => xs.length - (intOf i).toNat)
  case atStart => exact ⟨0, _, Nat.zero_le _, rfl, HRA.out, HPA.out, by simpa using hs0, HBA.out⟩
  case round =>
    obtain ⟨k, st, hk, rfl, hr, hp, hl, hbl⟩ := hrel
    have hsz := hbl.size
    by_cases hlt : k < xs.length
    · rcases HA.out with h | ⟨b, off, rfl, hbw, hcell⟩
      · subst h; simp at hlt
      obtain ⟨x0, x1, x2⟩ := hcell k hlt
      replace x0 := (hbl.cell (p := ⟨b, off + k * 3, none⟩) hbw).trans x0
      replace x1 := (hbl.cell (p := ⟨b, off + k * 3 + 1, none⟩) hbw).trans x1
      replace x2 := (hbl.cell (p := ⟨b, off + k * 3 + 2, none⟩) hbw).trans x2
      have hbx : b < wr.heap.size := Nat.lt_of_lt_of_le hbw hsz
      obtain ⟨f1, f2, f3⟩ := HF.out (xs.getD k default) (by simp [List.getD, hlt])
      clear hcell
      generalize xs.getD k default = x at *
      obtain ⟨xk, xn, xm⟩ := x
      simp only at x0 x1 x2 f1 f2 f3
      have C := Lib.hid (same_sw (some ⟨g, 0, none⟩) P st xk xn xm wr hr hp HNS.out (by omega) f1 f2 f3)
      have HBL := Lib.hid hbl
      clear hr hp f1 f2 f3 hbl
      go_wp2_with (go_at_call 27/-f-/; (with_reducible refine C.out.mono ?_); rintro e w2 ⟨rfl, ha⟩; have HA2 := Lib.hid ha; clear ha)
      go_roundw
      case rel =>
        obtain ⟨st', hr, hp, hl2, ho⟩ := HA2.out
        refine ⟨k + 1, st', hlt, by go_num, hr, hp, by omega, HBL.out.trans (ho.below (fun j hj h => ?_) HBL.out.size)⟩
        rcases h with h | h
        · unfold Sq at h; simp only [Option.some.injEq, Addr.mk.injEq, and_true] at h; omega
        · omega
      case measure => simp [intOf]; omega
    · have hkl : k = xs.length := by omega
      subst hkl
      go_wp2
      go_ret
      exact ⟨rfl, hbl⟩
theorem own : ownKnob Try.prog.godebug = none := by kernel_rfl
theorem laidOut : laidOutB Try.prog = true := by kernel_rfl
set_option maxRecDepth 100000 in
theorem lifted (os : Os) (started : os.Started) (H : Type) (enc : TypeId × Value → H) :
    ReturnsInHanded {} Try.checked os 4 .any (Rows.codecTakesSpec.pre6 enc Try.prog Try.f4 Rows.codecTakesRow.domain false) (Rows.codecTakesSpec.post enc Try.prog Try.f4 false true false false) := by
  refine returnsInHanded_of_change (C := Try.checked) own started (by kernel_rfl) Try.func4
    (ChangeSpec.witness6 (enc := enc) (C := Try.checked) false ⟨#[], #[.string ⟨#[]⟩, .slice none 0 0], []⟩ 8 (by kernel_rfl) (by kernel_rfl) (by kernel_rfl) (by kernel_rfl)) ?_
  intro W base args ds gs before hval0 hW hcnd _
  have hval : ∀ (j : Nat) t v, Try.f4.params[j]? = some t → args[j]? = some v → Value.okWide Try.prog W .any base t v := hval0
  have hW' := hW
  obtain ⟨p, q, hA0, hV, rfl, hfz, hnd⟩ := hW
  have hA : DataW.TrodAll enc Try.prog W 0 (fun _ => true) true Try.f4.params.toList args.toList ds p := hA0
  rw [Try.params4] at hA hval
  obtain ⟨v0, vs0, d0, ds0, p0, q0, hargs, rfl, rfl, h0, r0⟩ := trodAll_cons hA
  obtain ⟨v1, vs1, d1, ds1, p1, q1, rfl, rfl, rfl, h1, r1⟩ := trodAll_cons r0
  obtain ⟨rfl, rfl, rfl⟩ := trodAll_nil r1
  obtain rfl : args = #[v0, v1] := by cases args; simp_all
  obtain ⟨rfl, rfl⟩ := trodVars_none hV
  obtain ⟨s0, rfl, rfl, rfl, z0⟩ := Go.ChangeMaps.open_string Try.underlying9 (hval 0 9 v0 rfl rfl) h0
  obtain ⟨a1, len1, cap1, rfl⟩ := okWide_slice Try.underlying53 (hval 1 53 v1 rfl rfl)
  have k1 := h1
  have lt1 : ∀ x ∈ p1, x.block < W.heap.size := by obtain ⟨m, hm⟩ := k1; exact DataW.trod_lt m _ _ _ hm
  obtain ⟨fuel1, hf1⟩ := h1
  have hg1 : DataW.trod enc Try.prog W 0 (fun _ => true) true fuel1 53 [.slice a1 len1 cap1] = some (d1, p1) := by simpa [Value.cells] using hf1
  have o1 := open_asks hg1
  obtain ⟨le1, lc1, xs1, ln1, I1, ff1⟩ := o1
  clear hA0 hval0
  refine (walk s0 a1 len1 cap1 xs1 W I1 ln1 ff1 z0 le1).mono fun e W' ⟨he, bel⟩ => ?_
  subst he
  exact ⟨_, rfl, _, _, _, [], _, [], hW', trodAll_mk1 (shut_bool Try.underlying4 _), (trodAll_cons_mk (Go.ChangeMaps.shut_string Try.underlying9 z0) (trodAll_cons_mk (Below.trod laidOut (by kernel_rfl) (of_decide_eq_true (by kernel_rfl)) k1 bel lt1) trodAll_mk0)), rfl, bel.frame _, fun h => by cases h⟩

theorem over : Rows.codecTakesRow.holds Try.pinned (OpenSpec.ofChange Rows.codecTakesSpec) :=
  OpenClaim.holds_of_wide 4 Try.f4 rfl rfl rfl rfl rfl rfl rfl ⟨rfl, rfl, rfl, rfl, rfl⟩ rfl rfl rfl rfl rfl (by kernel_rfl) Try.func4 (by kernel_rfl)
    (of_decide_eq_true (by kernel_rfl)) (by unfold Func.isWrapper; first | (rw [if_pos (by decide +kernel)]; kernel_rfl) | (rw [if_neg (by decide +kernel)]; exact ⟨rfl, rfl⟩))
    (fun os started H enc _ => lifted os started H enc)

theorem proved : Rows.CodecTakesSaid := over

end Go.Proofs.Ytelfppjgdhelbaa.CodecTakes

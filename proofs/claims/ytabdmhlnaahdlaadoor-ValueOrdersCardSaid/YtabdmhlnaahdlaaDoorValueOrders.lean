/- ValueOrders: any values: whether they are right, and which stands first; rows likewise. Condition: the tables of Go's library that the row lists hold what the library's text lays in them. -/
import Derived.Test.YtabdmhlnaahdlaaDoorOpv
import Derived.Test.YtabdmhlnaahdlaaDoorRow
import Derived.Deep.CutBlock
import Derived.Deep.DeepCutAuto
import Derived.Deep.RegionHeld3
namespace Go.Proofs.YtabdmhlnaahdlaaDoor.ValueOrders
open Go.ChangeShapes Go.WideShapes Go.ChangeAt Go.RowKit
set_option linter.unusedVariables false
set_option maxRecDepth 100000 in
set_option maxHeartbeats 8000000 in
theorem walk (A B : Option Addr) (n c m d : Nat) (xs ys : List Val) (z : Int) (s : ByteArray) (t : Bool) (w : World) (hT : PT w) (hA : Vals w A xs) (hB : Vals w B ys) (hn : xs.length = n) (hm : ys.length = m) (hf : ∀ x ∈ xs, FitV x) (hg : ∀ x ∈ ys, FitV x)
    (hs1 : n ≤ 9223372036854775807) (hs2 : m ≤ 9223372036854775807) (hs3 : s.size ≤ 9223372036854775807) :
    Calls Tryd.prog 5/-f-/ #[.slice A n c, .slice B m d, .int .i64 z, .string s, .bool t] w fun e w' => e = .returned (.bool true) ∧ Below w.heap.size w w' := by
  subst hn hm
  have GA := Lib.hid (refgreat_any A xs.length c xs w hA rfl hf hs1)
  have GB := Lib.hid (refgreat_any B ys.length d ys w hB rfl hg hs2)
  have HT := Lib.hid hT
  have HA := Lib.hid hA
  have HB := Lib.hid hB
  have HF := Lib.hid hf
  have HG := Lib.hid hg
  clear hT hA hB hf hg
  have hG1 := fun h => great_no (vs := xs) h
  have hG2 := fun h => great_no (vs := ys) h
  have HG1 := Lib.hid hG1
  have HG2 := Lib.hid hG2
  clear hG1 hG2
  generalize greatB xs = g1 at *
  generalize greatB ys = g2 at *
  by_cases hgr : g1 = true ∨ g2 = true ∨ 300 < s.size
  · have key : ∀ (P : Prop), P → P := fun _ h => h
    cases g1
    · cases g2
      · have hsz : 300 < s.size := by simpa using hgr
        clear hgr key
        go_enter Tryd.func5/-f-/, Tryd.ntmps5/-f-/
        go_wp2_with (first | (go_at_call 16/-f-/; (with_reducible refine GA.out.mono ?_); rintro e w1 ⟨rfl, rfl⟩) | (go_at_call 16/-f-/; (with_reducible refine GB.out.mono ?_); rintro e w1 ⟨rfl, rfl⟩) | (go_at_call 17/-f-/; (with_reducible refine (awake2_any _ HT.out).mono ?_); rintro e w2 ⟨rfl, hb2⟩))
        go_ret
        exact ⟨rfl, hb2⟩
      · clear hgr key
        go_enter Tryd.func5/-f-/, Tryd.ntmps5/-f-/
        go_wp2_with (first | (go_at_call 16/-f-/; (with_reducible refine GA.out.mono ?_); rintro e w1 ⟨rfl, rfl⟩) | (go_at_call 16/-f-/; (with_reducible refine GB.out.mono ?_); rintro e w1 ⟨rfl, rfl⟩) | (go_at_call 17/-f-/; (with_reducible refine (awake2_any _ HT.out).mono ?_); rintro e w2 ⟨rfl, hb2⟩))
        go_ret
        exact ⟨rfl, hb2⟩
    · clear hgr key
      go_enter Tryd.func5/-f-/, Tryd.ntmps5/-f-/
      go_wp2_with (first | (go_at_call 16/-f-/; (with_reducible refine GA.out.mono ?_); rintro e w1 ⟨rfl, rfl⟩) | (go_at_call 17/-f-/; (with_reducible refine (awake2_any _ HT.out).mono ?_); rintro e w2 ⟨rfl, hb2⟩))
      go_ret
      exact ⟨rfl, hb2⟩
  have hg1 : g1 = false := by cases g1; rfl; exact absurd (Or.inl rfl) hgr
  have hg2 : g2 = false := by cases g2; rfl; exact absurd (Or.inr (Or.inl rfl)) hgr
  have hsz : s.size ≤ 300 := by
    rcases Nat.lt_or_ge 300 s.size with h | h
    · exact absurd (Or.inr (Or.inr h)) hgr
    · exact h
  subst hg1 hg2
  have hl1 := (HG1.out rfl).1
  have hl2 := (HG2.out rfl).1
  clear hgr hs1 hs2
  go_enter Tryd.func5/-f-/, Tryd.ntmps5/-f-/
  go_wp2_with (first | (go_at_call 16/-f-/; (with_reducible refine GA.out.mono ?_); rintro e w1 ⟨rfl, rfl⟩) | (go_at_call 16/-f-/; (with_reducible refine GB.out.mono ?_); rintro e w1 ⟨rfl, rfl⟩))
  go_loopw [11] (fun i wr => ∃ k : Nat, k ≤ xs.length ∧ k ≤ ys.length ∧ i = .int .i64 k ∧ Below w.heap.size w wr) (fun i _ => xs.length - (intOf i).toNat)
  case atStart => exact ⟨0, Nat.zero_le _, Nat.zero_le _, rfl, Below.refl _ _⟩
  case round =>
    obtain ⟨k, hk, hk', rfl, hbl⟩ := hrel
    have hsz2 := hbl.size
    by_cases hin : k < xs.length ∧ k < ys.length
    · obtain ⟨hi1, hi2⟩ := hin
      obtain ⟨b1, o1, rfl, hb1, hz1, x0, x1, x2⟩ := HA.out.at_ hbl k hi1
      obtain ⟨b2, o2, rfl, hb2, hz2, y0, y1, y2⟩ := HB.out.at_ hbl k hi2
      generalize xs.getD k default = x at *
      generalize ys.getD k default = y at *
      have RC := Lib.hid (fun W => cmp_any x y W)
      have RR := Lib.hid (fun W => refcmp_any x y W)
      generalize valCmp x y = cc at *
      go_upto_region 6 with fail
      go_region_held3 (fun W => W.cell? ⟨b1, o1 + k * 3, none⟩ = some (.int .i64 x.k) ∧ W.cell? ⟨b1, o1 + k * 3 + 1, none⟩ = some (.int .i64 x.n) ∧ W.cell? ⟨b1, o1 + k * 3 + 2, none⟩ = some (.string x.s) ∧ W.cell? ⟨b2, o2 + k * 3, none⟩ = some (.int .i64 y.k) ∧ W.cell? ⟨b2, o2 + k * 3 + 1, none⟩ = some (.int .i64 y.n) ∧ W.cell? ⟨b2, o2 + k * 3 + 2, none⟩ = some (.string y.s))
        (first | exact ⟨x0, x1, x2, y0, y1, y2⟩ | exact ⟨d0, d1, d2, d3, d4, d5⟩ | exact ⟨e0, e1, e2, e3, e4, e5⟩ | exact ⟨f0, f1, f2, f3, f4, f5⟩ | exact ⟨h0, h1, h2, h3, h4, h5⟩)
        (first
          | (go_at_call 18/-f-/; (with_reducible refine (RC.out _).mono ?_); rintro e w1 ⟨rfl, hbe⟩; have HBE := Lib.hid hbe; have d0 := (hbe.cell (p := ⟨b1, o1 + k * 3, none⟩) hz1).trans x0; have d1 := (hbe.cell (p := ⟨b1, o1 + k * 3 + 1, none⟩) hz1).trans x1; have d2 := (hbe.cell (p := ⟨b1, o1 + k * 3 + 2, none⟩) hz1).trans x2; have d3 := (hbe.cell (p := ⟨b2, o2 + k * 3, none⟩) hz2).trans y0; have d4 := (hbe.cell (p := ⟨b2, o2 + k * 3 + 1, none⟩) hz2).trans y1; have d5 := (hbe.cell (p := ⟨b2, o2 + k * 3 + 2, none⟩) hz2).trans y2; have hy1 : b1 < w1.heap.size := Nat.lt_of_lt_of_le hz1 hbe.size; have hy2 : b2 < w1.heap.size := Nat.lt_of_lt_of_le hz2 hbe.size; clear hbe)
          | (go_at_call 19/-f-/; (with_reducible refine (RR.out _).mono ?_); rintro e w2 ⟨rfl, hbe⟩; have HBF := Lib.hid hbe; have e0 := (hbe.cell (p := ⟨b1, o1 + k * 3, none⟩) hy1).trans d0; have e1 := (hbe.cell (p := ⟨b1, o1 + k * 3 + 1, none⟩) hy1).trans d1; have e2 := (hbe.cell (p := ⟨b1, o1 + k * 3 + 2, none⟩) hy1).trans d2; have e3 := (hbe.cell (p := ⟨b2, o2 + k * 3, none⟩) hy2).trans d3; have e4 := (hbe.cell (p := ⟨b2, o2 + k * 3 + 1, none⟩) hy2).trans d4; have e5 := (hbe.cell (p := ⟨b2, o2 + k * 3 + 2, none⟩) hy2).trans d5; clear hbe))
      go_wp2
      go_roundw
      case rel => exact ⟨k + 1, by omega, by omega, by go_num, (hbl.drew.trans (HBE.out.mono (by simpa using hsz2))).trans (HBF.out.mono (by have := HBE.out.size; simp at this; omega))⟩
      case measure => simp [intOf]; omega
    · have R1 := Lib.hid (fun W (h : Vals W A xs) => rightall_any A xs.length c xs W h rfl HF.out (by omega))
      have R2 := Lib.hid (fun W (h : Vals W A xs) => refall_any A xs.length c xs W h rfl HF.out (by omega))
      have R3 := Lib.hid (fun W (h : Vals W A xs) (h2 : Vals W B ys) => rows_any A B xs.length c ys.length d xs ys W h h2 rfl rfl (by omega) (by omega))
      have R4 := Lib.hid (fun W (h : Vals W A xs) (h2 : Vals W B ys) => refrows_any A B xs.length c ys.length d xs ys W h h2 rfl rfl (by omega) (by omega))
      have E1 : ∀ W, (Op.equalIn 10000 35 (.agg #[.int .i64 1, .int .i64 z, .string ⟨#[]⟩]) (.agg #[.int .i64 1, .int .i64 z, .string ⟨#[]⟩])).run Tryd.prog W = .ok true W := fun W => by rw [eqVal]; simp
      have E2 : ∀ W, (Op.equalIn 10000 35 (.agg #[.int .i64 2, .int .i64 0, .string s]) (.agg #[.int .i64 2, .int .i64 0, .string s])).run Tryd.prog W = .ok true W := fun W => by rw [eqVal]; simp
      have E3 : ∀ W, (Op.equalIn 10000 35 (.agg #[.int .i64 3, .int .i64 0, .string ⟨#[]⟩]) (.agg #[.int .i64 3, .int .i64 0, .string ⟨#[]⟩])).run Tryd.prog W = .ok true W := fun W => by rw [eqVal]; simp
      have E4 : ∀ W, (Op.equalIn 10000 35 (.agg #[.int .i64 3, .int .i64 1, .string ⟨#[]⟩]) (.agg #[.int .i64 3, .int .i64 1, .string ⟨#[]⟩])).run Tryd.prog W = .ok true W := fun W => by rw [eqVal]; simp
      have hgv := guardVal
      have H0 := Lib.hid hbl
      have hno : (decide ((k : Int) < xs.length) && decide ((k : Int) < ys.length)) = false := by
        rcases Nat.lt_or_ge k xs.length with h | h
        · have h2 : ¬ k < ys.length := fun h2 => hin ⟨h, h2⟩
          simp; omega
        · simp; omega
      generalize rall xs = r1 at *
      generalize valRows xs ys = r2 at *
      have hkx : k < xs.length ∨ ¬ k < xs.length := Nat.lt_or_ge k xs.length |>.imp id (fun h => by omega)
      have HIN := Lib.hid hin
      clear hin hno
      rcases hkx with hkx | hkx
      all_goals
        have hky : k < xs.length → ¬ k < ys.length := fun h h2 => HIN.out ⟨h, h2⟩
        have HKY := Lib.hid hky
        clear hky
        cases t
        all_goals
          try (have hky2 : ¬ k < ys.length := HKY.out hkx)
          go_wp2_with (first
            | (go_at_call 20/-f-/; (with_reducible refine (R1.out _ (HA.out.keep H0.out)).mono ?_); rintro e w1 ⟨rfl, hb⟩; have H1 := Lib.hid (H0.out.trans (hb.mono H0.out.size)); clear hb)
            | (go_at_call 21/-f-/; (with_reducible refine (R2.out _ (HA.out.keep H1.out)).mono ?_); rintro e w2 ⟨rfl, hb⟩; have H2 := Lib.hid (H1.out.trans (hb.mono H1.out.size)); clear hb)
            | (go_at_call 22/-f-/; (with_reducible refine (R3.out _ (HA.out.keep H2.out) (HB.out.keep H2.out)).mono ?_); rintro e w3 ⟨rfl, hb⟩; have H3 := Lib.hid (H2.out.trans (hb.mono H2.out.size)); clear hb)
            | (go_at_call 23/-f-/; (with_reducible refine (R4.out _ (HA.out.keep H3.out) (HB.out.keep H3.out)).mono ?_); rintro e w4 ⟨rfl, hb⟩; have H4 := Lib.hid (H3.out.trans (hb.mono H3.out.size)); clear hb)
            | (go_at_call 24/-f-/; (with_reducible refine (int_any _ _).mono ?_); rintro e w5 ⟨rfl, hb⟩; have H5 := Lib.hid (H4.out.trans (hb.mono H4.out.size)); clear hb)
            | (go_at_call 25/-f-/; (with_reducible refine (text_any _ _).mono ?_); rintro e w6 ⟨rfl, hb⟩; have H6 := Lib.hid (H5.out.trans (hb.mono H5.out.size)); clear hb)
            | (go_at_call 26/-f-/; (with_reducible refine (bool_any _ _).mono ?_); rintro e w7 ⟨rfl, hb⟩; have H7 := Lib.hid (H6.out.trans (hb.mono H6.out.size)); clear hb)
            | (go_at_call 17/-f-/; (with_reducible refine (awake2_any _ (HT.out.below H7.out (Nat.le_refl _))).mono ?_); rintro e w8 ⟨rfl, hb⟩; have H8 := Lib.hid (H7.out.trans (hb.mono H7.out.size)); clear hb))
          go_ret
          exact ⟨rfl, H8.out⟩
theorem laid_met (os : Os) : laidMet Tryd.prog Rows.valueOrdersRow.laid ((laidWorld os).forCall (fun _ _ => 0) ⟨#[], #[.slice none 0 0, .slice none 0 0, .int .i64 0, .string ⟨#[]⟩, .bool false], []⟩).memory :=
  laidMet_of_run' 8 (by kernel_rfl) (by kernel_rfl)
theorem reads (os : Os) {H : Type} (enc : TypeId × Value → H) : ∃ places, DataW.whole enc Tryd.prog ((laidWorld os).forCall (fun _ _ => 0) ⟨#[], #[.slice none 0 0, .slice none 0 0, .int .i64 0, .string ⟨#[]⟩, .bool false], []⟩).memory Tryd.f5.params.toList Rows.valueOrdersSpec.vars false (#[.slice none 0 0, .slice none 0 0, .int .i64 0, .string ⟨#[]⟩, .bool false] : Array Value).toList 8 = some ([.nil, .nil, .lit (.int .i64 0), .lit (.string []), .lit (.bool false)], [], places) :=
  ⟨[], by kernel_rfl⟩
end Go.Proofs.YtabdmhlnaahdlaaDoor.ValueOrders

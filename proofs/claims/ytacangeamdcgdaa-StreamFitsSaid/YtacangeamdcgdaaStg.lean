/- Contracts of the statements of package stream: whether there is more than is asked of. -/
import Derived.Test.YtacangeamdcgdaaStn
import Derived.Test.YtacangeamdcgdaaGrs
namespace Go.Proofs.Ytacangeamdcgdaa
open Go.ChangeShapes Go.WideShapes Go.ChangeAt Go.RowKit Go.Deep
/-- A batch. -/
structure Bat where
  id : Int
  rows : List (List Val)
instance : Inhabited Bat := ⟨⟨0, []⟩⟩
/-- A slice of batches, as it reads. -/
def Bats (w : World) (A : Option Addr) (bs : List Bat) : Prop :=
  bs = [] ∨ ∃ b off, A = some ⟨b, off, none⟩ ∧ b < w.heap.size ∧ ∀ i, i < bs.length → ∃ Ai ci, w.cell? ⟨b, off + i * 2, none⟩ = some (.int .i64 (bs.getD i default).id) ∧ w.cell? ⟨b, off + i * 2 + 1, none⟩ = some (.slice Ai (bs.getD i default).rows.length ci) ∧ Rowz w Ai (bs.getD i default).rows
theorem Bats.keep {w w' : World} {A : Option Addr} {bs : List Bat} (h : Bats w A bs) (hb : Below w.heap.size w w') : Bats w' A bs := by
  rcases h with h | ⟨b, off, hA, hbw, hcell⟩
  · exact .inl h
  · refine .inr ⟨b, off, hA, Nat.lt_of_lt_of_le hbw hb.size, fun i hi => ?_⟩
    obtain ⟨Ai, ci, h1, h2, h3⟩ := hcell i hi
    exact ⟨Ai, ci, (hb.cell (p := ⟨b, off + i * 2, none⟩) hbw).trans h1, (hb.cell (p := ⟨b, off + i * 2 + 1, none⟩) hbw).trans h2, h3.below hb⟩
structure FitB (b : Bat) : Prop where
  id : -9223372036854775808 ≤ b.id ∧ b.id ≤ 9223372036854775807
  len : b.rows.length ≤ 9223372036854775807
  rows : ∀ r ∈ b.rows, r.length ≤ 9223372036854775807 ∧ ∀ x ∈ r, FitV x
def badB (b : Bat) : Bool := decide (40 < b.rows.length) || b.rows.any greatB
/-- Whether there is more than is asked of. -/
def greatL (nm : ByteArray) (cs : List Col) (bs : List Bat) : Bool := greatS ⟨nm, cs, [], 0, 0, 0⟩ || decide (40 < bs.length) || bs.any badB
set_option maxRecDepth 100000 in
set_option maxHeartbeats 8000000 in
theorem greatl_any (nm : ByteArray) (A : Option Addr) (c : Nat) (cs : List Col) (B : Option Addr) (d : Nat) (bs : List Bat) (w : World) (hnm : nm.size ≤ 9223372036854775807) (hC : Cols w A cs) (hcl : cs.length ≤ 9223372036854775807) (hcc : cs.length ≤ c) (hcf : ∀ x ∈ cs, FitC x)
    (hB : Bats w B bs) (hbl : bs.length ≤ 9223372036854775807) (hbf : ∀ x ∈ bs, FitB x) :
    Calls Try.prog 9/-f-/ #[.agg #[.string nm, .slice A cs.length c], .slice B bs.length d] w fun e w' => e = .returned (.bool (greatL nm cs bs)) ∧ Below w.heap.size w w' := by
  obtain ⟨R, hR⟩ : ∃ R, R = greatL nm cs bs := ⟨_, rfl⟩
  rw [← hR]
  have HR := Lib.hid hR
  clear hR
  have HB0 := Lib.hid (below_alloc w (.cells #[.string nm, .slice A cs.length c] 24))
  have GS' := fun W (hb : Below w.heap.size w W) => great_sch (.agg #[.string nm, .slice A cs.length c, .slice none 0 0, .int .i64 0, .int .i64 0, .int .i64 0]) ⟨nm, cs, [], 0, 0, 0⟩ W ⟨A, none, c, 0, rfl, hC.keep hb, .inl rfl, hcc, Nat.le_refl _⟩ ⟨hnm, hcl, (by show 0 ≤ _; omega), hcf, (fun x hx => (by cases hx)), ⟨by show (-9223372036854775808 : Int) ≤ 0; omega, by show (0 : Int) ≤ _; omega⟩, ⟨by show (-9223372036854775808 : Int) ≤ 0; omega, by show (0 : Int) ≤ _; omega⟩, ⟨by show (-9223372036854775808 : Int) ≤ 0; omega, by show (0 : Int) ≤ _; omega⟩⟩
  have HBS := Lib.hid hB
  have HBF := Lib.hid hbf
  obtain ⟨q, hq⟩ : ∃ q, q = greatS ⟨nm, cs, [], 0, 0, 0⟩ := ⟨_, rfl⟩
  rw [← hq] at GS'
  have GS := Lib.hid GS'
  have HQ := Lib.hid hq
  clear GS' hq hC hB hbf hcf
  cases q with
  | true =>
    have HX := Lib.hid (show R = true from by rw [HR.out]; unfold greatL; rw [← HQ.out]; rfl)
    go_enter Try.func9, Try.ntmps9
    go_wp2_with (go_at_call 36/-f-/; (with_reducible refine (GS.out _ HB0.out).mono ?_); rintro e w2 ⟨rfl, hb2⟩; have HB2 := Lib.hid (HB0.out.trans (hb2.mono HB0.out.size)); clear hb2)
    go_ret
    exact ⟨ret_bool HX.out.symm, HB2.out⟩
  | false =>
  by_cases h40 : 40 < bs.length
  · have HX := Lib.hid (show R = true from by rw [HR.out]; unfold greatL; rw [← HQ.out, decide_eq_true h40]; rfl)
    have h40i : (40 : Int) < (bs.length : Int) := by omega
    go_enter Try.func9, Try.ntmps9
    go_wp2_with (go_at_call 36/-f-/; (with_reducible refine (GS.out _ HB0.out).mono ?_); rintro e w2 ⟨rfl, hb2⟩; have HB2 := Lib.hid (HB0.out.trans (hb2.mono HB0.out.size)); clear hb2)
    go_ret
    exact ⟨ret_bool HX.out.symm, HB2.out⟩
  have HY := Lib.hid (show R = bs.any badB from by rw [HR.out]; unfold greatL; rw [← HQ.out, decide_eq_false h40]; rfl)
  have h40i : ¬ (40 : Int) < (bs.length : Int) := by omega
  go_enter Try.func9, Try.ntmps9
  go_wp2_with (go_at_call 36/-f-/; (with_reducible refine (GS.out _ HB0.out).mono ?_); rintro e w2 ⟨rfl, hb2⟩; have HB2 := Lib.hid (HB0.out.trans (hb2.mono HB0.out.size)); clear hb2)
  have HBS2 := Lib.hid (HBS.out.keep HB2.out)
  go_loop [5] (fun i => ∃ k : Nat, k ≤ bs.length ∧ i = .int .i64 k ∧ Hid (∀ x ∈ bs.take k, badB x = false)) (fun i => bs.length - (intOf i).toNat)
  case atStart => exact ⟨0, Nat.zero_le _, rfl, Lib.hid (fun x hx => by simp at hx)⟩
  case round =>
    obtain ⟨k, hk, rfl, hno⟩ := hrel
    by_cases hlt : k < bs.length
    · obtain ⟨b, off, rfl, hbw, Ai, ci, y0, y1, hrw⟩ : ∃ b off, B = some ⟨b, off, none⟩ ∧ b < w2.heap.size ∧ ∃ Ai ci, w2.cell? ⟨b, off + k * 2, none⟩ = some (.int .i64 (bs.getD k default).id) ∧ w2.cell? ⟨b, off + k * 2 + 1, none⟩ = some (.slice Ai (bs.getD k default).rows.length ci) ∧ Rowz w2 Ai (bs.getD k default).rows := by
        rcases HBS2.out with h | ⟨b, off, h1, h2, h3⟩
        · subst h; simp at hlt
        · obtain ⟨Ai, ci, a1, a2, a3⟩ := h3 k hlt
          exact ⟨b, off, h1, h2, Ai, ci, a1, a2, a3⟩
      have HM := Lib.hid (show bs.getD k default ∈ bs from by simp [List.getD, hlt])
      have HT := Lib.hid (show bs.take (k + 1) = bs.take k ++ [bs.getD k default] from by rw [List.take_succ_eq_append_getElem hlt]; simp [List.getD, List.getElem?_eq_getElem hlt])
      have hfb := HBF.out (bs.getD k default) HM.out
      have YES := Lib.hid (fun (h : badB (bs.getD k default) = true) => (show R = true from by rw [HY.out, List.any_eq_true]; exact ⟨_, HM.out, h⟩))
      have NEXT := Lib.hid (fun (h : badB (bs.getD k default) = false) => (show ∀ x ∈ bs.take (k + 1), badB x = false from fun x hx => by
        rw [HT.out, List.mem_append, List.mem_singleton] at hx
        rcases hx with hx | rfl
        · exact hno.out x hx
        · exact h))
      generalize bs.getD k default = x at *
      obtain ⟨xi, rs⟩ := x
      have hrl : rs.length ≤ 9223372036854775807 := hfb.len
      have HRF := Lib.hid hfb.rows
      have HRW := Lib.hid hrw
      simp only at y0 y1
      clear hfb hrw
      by_cases hr40 : 40 < rs.length
      · have HX := Lib.hid (YES.out (by unfold badB; rw [decide_eq_true hr40]; rfl))
        have hr40i : (40 : Int) < (rs.length : Int) := by omega
        go_wp2
        go_ret
        exact ⟨ret_bool HX.out.symm, HB2.out⟩
      · have hr40i : ¬ (40 : Int) < (rs.length : Int) := by omega
        go_wp2
        go_loop [6] (fun i => ∃ j : Nat, j ≤ rs.length ∧ i = .int .i64 j ∧ Hid (∀ r ∈ rs.take j, greatB r = false)) (fun i => rs.length - (intOf i).toNat)
        case atStart => exact ⟨0, Nat.zero_le _, rfl, Lib.hid (fun x hx => by simp at hx)⟩
        case round =>
          obtain ⟨j, hj, rfl, hall⟩ := hrel
          by_cases hjt : j < rs.length
          · obtain ⟨b3, o3, rfl, hb3, Aj, cj, z0, hv⟩ : ∃ b off, Ai = some ⟨b, off, none⟩ ∧ b < w2.heap.size ∧ ∃ Aj cj, w2.cell? ⟨b, off + j, none⟩ = some (.slice Aj (rs.getD j []).length cj) ∧ Vals w2 Aj (rs.getD j []) := by
              rcases HRW.out with h | ⟨b, off, h1, h2, h3⟩
              · subst h; simp at hjt
              · obtain ⟨Aj, cj, a1, a2⟩ := h3 j hjt
                exact ⟨b, off, h1, h2, Aj, cj, a1, a2⟩
            have HMR := Lib.hid (show rs.getD j [] ∈ rs from by simp [List.getD, hjt])
            have HTR := Lib.hid (show rs.take (j + 1) = rs.take j ++ [rs.getD j []] from by rw [List.take_succ_eq_append_getElem hjt]; simp [List.getD, List.getElem?_eq_getElem hjt])
            have HFX := Lib.hid (HRF.out (rs.getD j []) HMR.out)
            have HV := Lib.hid hv
            clear hv
            generalize rs.getD j [] = r at *
            have C := Lib.hid (refgreat_any Aj r.length cj r w2 HV.out rfl HFX.out.2 HFX.out.1)
            obtain ⟨q, hq⟩ : ∃ q, q = greatB r := ⟨_, rfl⟩
            rw [← hq] at C
            have HQR := Lib.hid hq
            clear hq
            cases q with
            | true =>
              have HX := Lib.hid (YES.out (by unfold badB; rw [Bool.or_eq_true, List.any_eq_true]; exact .inr ⟨r, HMR.out, HQR.out.symm⟩))
              go_wp2_with (go_at_call 37/-f-/; (with_reducible refine C.out.mono ?_); rintro e w3 ⟨rfl, rfl⟩)
              go_ret
              exact ⟨ret_bool HX.out.symm, HB2.out⟩
            | false =>
              go_wp2_with (go_at_call 37/-f-/; (with_reducible refine C.out.mono ?_); rintro e w3 ⟨rfl, rfl⟩)
              go_round
              case rel => exact ⟨j + 1, hjt, by go_num, Lib.hid (fun y hy => by
                rw [HTR.out, List.mem_append, List.mem_singleton] at hy
                rcases hy with hy | rfl
                · exact hall.out y hy
                · exact HQR.out.symm)⟩
              case measure => simp [intOf]; omega
          · have hjl : j = rs.length := by omega
            subst hjl
            rw [List.take_length] at hall
            have HN := Lib.hid (NEXT.out (by
              unfold badB
              rw [Bool.or_eq_false_iff, decide_eq_false_iff_not, List.any_eq_false]
              exact ⟨hr40, fun x hx => by have := hall.out x hx; simp [this]⟩))
            go_wp2
            go_round
            case rel => exact ⟨k + 1, hlt, by go_num, HN⟩
            case measure => simp [intOf]; omega
    · have hkl : k = bs.length := by omega
      subst hkl
      rw [List.take_length] at hno
      have HX := Lib.hid (show R = false from by
        rw [HY.out, List.any_eq_false]
        exact fun x hx => by have := hno.out x hx; simp [this])
      go_wp2
      go_ret
      exact ⟨ret_bool HX.out.symm, HB2.out⟩
end Go.Proofs.Ytacangeamdcgdaa

/- Contract of package value's Line. -/
import Derived.Test.YtabdmhlnaahdlaaDoorBld
import Derived.Test.YtabdmhlnaahdlaaDoorPas
import Derived.Test.YtabdmhlnaahdlaaDoorRow
namespace Go.Proofs.YtabdmhlnaahdlaaDoor
open Go.ChangeShapes Go.WideShapes Go.ChangeAt Go.RowKit
def lineOf : List Val → List UInt8
  | [] => []
  | x :: r => printed x ++ r.flatMap fun y => [44, 32] ++ printed y
theorem line_take (vs : List Val) (k : Nat) (h : k < vs.length) : lineOf (vs.take (k + 1)) = lineOf (vs.take k) ++ ((if k = 0 then [] else [44, 32]) ++ printed (vs.getD k default)) := by
  rw [List.take_succ_eq_append_getElem h]
  have e : vs.getD k default = vs[k] := by simp [List.getD, List.getElem?_eq_getElem h]
  rw [e]
  generalize vs[k] = y
  cases vs with
  | nil => simp at h
  | cons x r =>
    cases k with
    | zero => simp [lineOf]
    | succ k => simp [lineOf]
theorem printed_len (x : Val) (hf : FitV x) (h : x.s.size ≤ 300) : (printed x).length ≤ 1000 := by
  unfold printed
  split
  · unfold printOf
    split
    · have := Ar.itoa_len x.n hf.n.1 hf.n.2
      omega
    · split
      · have := dbl_len x.s.data.toList
        have e : x.s.data.toList.length = x.s.size := by simp
        simp
        omega
      · split <;> simp
  · simp
theorem line_len (vs : List Val) (hf : ∀ x ∈ vs, FitV x) (h : ∀ x ∈ vs, x.s.size ≤ 300) : ∀ k, k ≤ vs.length → (lineOf (vs.take k)).length ≤ 1002 * k
  | 0, _ => by simp [lineOf]
  | k + 1, hk => by
    rw [line_take vs k hk, List.length_append, List.length_append]
    have h1 := line_len vs hf h k (by omega)
    have h2 := printed_len (vs.getD k default) (hf _ (getD_mem vs k hk)) (h _ (getD_mem vs k hk))
    have h3 : ((if k = 0 then [] else [44, 32]) : List UInt8).length ≤ 2 := by split <;> simp
    omega
theorem bat_keep {T e : TypeId} {B b : Nat} {p : Value} {bs : List Value} {w w' : World} (h : Lib.BuilderAt T e B b p bs w) (hb : Below w.heap.size w w') : Lib.BuilderAt T e B b p bs w' := by
  have hlt := h.lt
  obtain ⟨h1, v, h2, h3, h4⟩ := h
  exact ⟨h1, v, (hb.block b hlt).trans h2, (Off.of (S := fun _ => False) hb).own h3 (fun _ _ h => h), h4⟩
theorem bis_keep {T e : TypeId} {B b : Nat} {bs : List Value} {w w' : World} (h : Lib.IsBuilder T e B b bs w) (hb : Below w.heap.size w w') : Lib.IsBuilder T e B b bs w' :=
  h.elim (fun h => .inl (bat_keep h hb)) (fun h => .inr (bat_keep h hb))
set_option maxHeartbeats 8000000 in
set_option maxRecDepth 100000 in
theorem line_any (A : Option Addr) (n c : Nat) (vs : List Val) (w : World) (hT : PT w) (hA : Vals w A vs) (hn : vs.length = n) (hf : ∀ x ∈ vs, FitV x) (hs : n ≤ 1000) (hz : ∀ x ∈ vs, x.s.size ≤ 300) :
    Calls Tryd.prog 37/-f-/ #[.slice A n c] w fun e w' => e = .returned (.string ⟨(lineOf vs).toArray⟩) ∧ Below w.heap.size w w' := by
  subst hn
  have HT := Lib.hid hT
  have HA := Lib.hid hA
  have HF := Lib.hid hf
  have HZ := Lib.hid hz
  clear hT hA hf hz
  go_enter Tryd.func37/-f-/, Tryd.ntmps37/-f-/
  go_wp2
  go_loopw [8] (fun i wr => ∃ k : Nat, k ≤ vs.length ∧ i = .int .i64 k ∧ Below w.heap.size w wr ∧ Hid (Lib.IsBuilder 85/-t-/ 5/-t-/ w.heap.size w.heap.size (Lib.byteCells (lineOf (vs.take k))) wr)) (fun i _ => vs.length - (intOf i).toNat)
  case atStart => exact ⟨0, Nat.zero_le _, rfl, (Below.refl _ _).alloc (Nat.le_refl _) _, Lib.hid (Lib.fresh_isBuilder 85/-t-/ 5/-t-/ w)⟩
  case round =>
    obtain ⟨k, hk, rfl, hbl, hbd⟩ := hrel
    have hsz := hbl.size
    by_cases hlt : k < vs.length
    · obtain ⟨b1, o1, rfl, hb1, hz1, x0, x1, x2⟩ := HA.out.at_ hbl k hlt
      have HTK := Lib.hid (line_take vs k hlt)
      have RP := Lib.hid (fun W (h : PT W) => printv_any (vs.getD k default) W h (HF.out _ (getD_mem vs k hlt)) (by have := HZ.out _ (getD_mem vs k hlt); omega))
      have l1 := line_len vs HF.out HZ.out k hk
      have l2 := printed_len (vs.getD k default) (HF.out _ (getD_mem vs k hlt)) (HZ.out _ (getD_mem vs k hlt))
      generalize vs.getD k default = x at *
      generalize lineOf (vs.take k) = L at *
      have hll : L.length ≤ 1002000 := by omega
      have HBL := Lib.hid hbl
      have HA1 := Lib.hid (show Below w.heap.size w (wr.alloc (.cells #[.int .i64 x.k, .int .i64 x.n, .string x.s] 35/-t-/)) from hbl.alloc hsz _)
      have HD1 := Lib.hid (bis_keep hbd.out ((Below.refl wr.heap.size wr).alloc (Nat.le_refl _) (.cells #[.int .i64 x.k, .int .i64 x.n, .string x.s] 35/-t-/)))
      have HK1 := Lib.hid (Blk.new wr 35/-t-/ #[.int .i64 x.k, .int .i64 x.n, .string x.s])
      have hpl : (⟨(printed x).toArray⟩ : ByteArray).size = (printed x).length := by show (printed x).toArray.size = _; rw [List.size_toArray]
      have hwne : wr.heap.size ≠ w.heap.size := by
        have := hbd.out.elim (fun h => h.lt) (fun h => h.lt)
        omega
      by_cases h0 : k = 0
      · have hkp : ¬ (0 : Int) < k := by omega
        have HT2 := Lib.hid (HTK.out.trans (by rw [if_pos h0, List.nil_append] : _ = L ++ printed x))
        clear HTK h0
        go_wp2_with (first
          | (go_at_call 34/-f-/; (with_reducible refine (RP.out _ (HT.out.below HA1.out (Nat.le_refl _))).mono ?_); rintro e w3 ⟨rfl, hb3⟩; have HB3 := Lib.hid (HA1.out.trans (hb3.mono HA1.out.size)); have HD3 := Lib.hid (bis_keep HD1.out hb3); clear hb3)
          | (go_at_call 63/-f-/; (with_reducible refine (write_any w.heap.size w.heap.size _ ⟨(printed x).toArray⟩ _ HD3.out (by rw [Lib.byteCells_length, hpl]; omega) HB3.out.size).mono ?_); rintro e w4 ⟨rfl, hd4, hb4, hk4⟩; have HB4 := Lib.hid (HB3.out.trans hb4); have HD4 := Lib.hid hd4; clear hd4 hb4 hk4))
        go_roundw
        case rel => exact ⟨k + 1, hlt, by go_num, HB4.out, by rw [HT2.out, Lib.byteCells_append]; exact HD4⟩
        case measure => simp [intOf]; omega
      · have hkp : (0 : Int) < k := by omega
        have h2s : (⟨#[44, 32]⟩ : ByteArray).size = 2 := rfl
        have HT2 := Lib.hid (HTK.out.trans (by rw [if_neg h0] : _ = L ++ ([44, 32] ++ printed x)))
        clear HTK h0
        go_wp2_with (first
          | (go_at_call 63/-f-/; (with_reducible refine (write_any w.heap.size w.heap.size _ ⟨#[44, 32]⟩ _ HD1.out (by rw [Lib.byteCells_length, h2s]; omega) HA1.out.size).mono ?_); rintro e w2 ⟨rfl, hd2, hb2, hk2⟩; have HB2 := Lib.hid (HA1.out.trans hb2); have HD2 := Lib.hid hd2; have B2 := hk2 _ _ _ hwne (by decide) HK1.out; have q0 := B2.cell 0; have q1 := B2.cell 1; have q2 := B2.cell 2; have hq := B2.lt; simp at q0 q1 q2; clear hd2 hb2 hk2 B2)
          | (go_at_call 34/-f-/; (with_reducible refine (RP.out _ (HT.out.below HB2.out (Nat.le_refl _))).mono ?_); rintro e w3 ⟨rfl, hb3⟩; have HB3 := Lib.hid (HB2.out.trans (hb3.mono HB2.out.size)); have HD3 := Lib.hid (bis_keep HD2.out hb3); clear hb3)
          | (go_at_call 63/-f-/; (with_reducible refine (write_any w.heap.size w.heap.size _ ⟨(printed x).toArray⟩ _ HD3.out (by rw [List.length_append, Lib.byteCells_length, Lib.strCells_length, h2s, hpl]; omega) HB3.out.size).mono ?_); rintro e w4 ⟨rfl, hd4, hb4, hk4⟩; have HB4 := Lib.hid (HB3.out.trans hb4); have HD4 := Lib.hid hd4; clear hd4 hb4 hk4))
        go_roundw
        case rel => exact ⟨k + 1, hlt, by go_num, HB4.out, by rw [HT2.out, Lib.byteCells_append, Lib.byteCells_append, ← List.append_assoc]; exact HD4⟩
        case measure => simp [intOf]; omega
    · obtain rfl : k = vs.length := by omega
      have l1 := line_len vs HF.out HZ.out vs.length (Nat.le_refl _)
      rw [List.take_length] at hbd l1
      go_wp2_with (go_at_call 64/-f-/; (with_reducible refine (Tryd.Builder_String_any w.heap.size w.heap.size (lineOf vs) _ hbd.out hsz).mono ?_); rintro e w2 ⟨rfl, hb2⟩)
      go_ret
      exact ⟨rfl, hbl.trans hb2⟩
end Go.Proofs.YtabdmhlnaahdlaaDoor

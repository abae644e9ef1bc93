/- Keys by an index stand as what they pick: plain mathematics. -/
import Derived.Test.YtddejkmfffeikaaOre
import Derived.Test.YtddejkmfffeikaaGrs
namespace Go.Proofs.Ytddejkmfffeikaa
open Go.ChangeShapes Go.WideShapes Go.ChangeAt Go.RowKit
theorem cmp_zero_eq : ∀ x y : List UInt8, Lib.compareBytes x y = 0 → x = y
  | [], [], _ => rfl
  | [], _ :: _, h => by simp [Lib.compareBytes] at h
  | _ :: _, [], h => by simp [Lib.compareBytes] at h
  | a :: x, b :: y, h => by
    rw [cmp_cons] at h
    by_cases h1 : a < b
    · rw [if_pos h1] at h; omega
    · by_cases h2 : b < a
      · rw [if_neg h1, if_pos h2] at h; omega
      · rw [if_neg h1, if_neg h2] at h
        have h3 : a = b := UInt8.le_antisymm (UInt8.not_lt.1 h2) (UInt8.not_lt.1 h1)
        rw [h3, cmp_zero_eq x y h]
theorem cmp_zero (x y : List UInt8) : Lib.compareBytes x y = 0 ↔ x = y := by
  refine ⟨cmp_zero_eq x y, ?_⟩
  rintro rfl
  have h := cmp_anti x x
  omega
/-- What the law says of two keys. -/
structure Wayz (x y : ByteArray) (cc : Int) : Prop where
  lss : Op.bytesLess x.toList y.toList = decide (cc < 0)
  eql : (x.toList == y.toList) = decide (cc = 0)
  rng : cc = -1 ∨ cc = 0 ∨ cc = 1
theorem wayz (xs ys : List Val) (hx : ∀ x ∈ xs, FitV x ∧ rightB x.k x.n x.s = true) (hy : ∀ x ∈ ys, FitV x ∧ rightB x.k x.n x.s = true) : Wayz ⟨(keysOf xs).toArray⟩ ⟨(keysOf ys).toArray⟩ (valRows xs ys) where
  lss := by
    rw [ByteArray.toList_eq, ByteArray.toList_eq, less_cmp, ← cmp_keys xs ys hx hy]
  eql := by
    rw [ByteArray.toList_eq, ByteArray.toList_eq, ← cmp_keys xs ys hx hy]
    show (keysOf xs == keysOf ys) = _
    rw [Bool.eq_iff_iff, beq_iff_eq, decide_eq_true_iff, cmp_zero]
  rng := by rw [← cmp_keys xs ys hx hy]; exact cmp_range _ _
theorem valRows_app : ∀ (a b c d : List Val), a.length = b.length → valRows (a ++ c) (b ++ d) = if valRows a b ≠ 0 then valRows a b else valRows c d
  | [], [], c, d, _ => by simp [valRows]
  | [], _ :: _, _, _, h => by simp at h
  | _ :: _, [], _, _, h => by simp at h
  | x :: a, y :: b, c, d, h => by
    rw [List.cons_append, List.cons_append, valRows, valRows, valRows_app a b c d (by simpa using h)]
    by_cases h1 : valCmp x y ≠ 0
    · simp [h1]
    · simp [h1]
/-- Which way two rows stand by an index. -/
def wayF (is : List Ind) (p : Nat) (a b : List Val) : Int :=
  if valRows (pickL a (is.getD p default).cols) (pickL b (is.getD p default).cols) = 0 ∧ (is.getD p default).uq = false
  then valRows (pickL a (is.getD 0 default).cols) (pickL b (is.getD 0 default).cols) else valRows (pickL a (is.getD p default).cols) (pickL b (is.getD p default).cols)
theorem pick_len_eq {vs : List Val} {xs : List Int} (h : xs.all (inB vs.length) = true) : (pickL vs xs).length = xs.length := by
  unfold pickL
  rw [if_pos h, List.length_map]
theorem both_pick {vs : List Val} (xs : List Int) (hf : ∀ x ∈ vs, FitV x) (hr : rall vs = true) : ∀ x ∈ pickL vs xs, FitV x ∧ rightB x.k x.n x.s = true := fun x hx => ⟨hf x (pick_in vs xs x hx), by
  have := pick_right vs xs hr
  unfold rall at this
  exact List.all_eq_true.1 this x hx⟩
theorem way_keys (is : List Ind) (p : Nat) (a b : List Val) (ha : ∀ x ∈ a, FitV x) (hb : ∀ x ∈ b, FitV x) (ra : rall a = true) (rb : rall b = true)
    (hpa : (is.getD p default).cols.all (inB a.length) = true) (hpb : (is.getD p default).cols.all (inB b.length) = true) :
    Wayz ⟨(keyX is p a).toArray⟩ ⟨(keyX is p b).toArray⟩ (wayF is p a b) := by
  unfold keyX wayF keyU
  by_cases hu : (is.getD p default).uq = true
  · rw [if_pos hu, if_pos hu, List.append_nil, List.append_nil, if_neg (by rw [hu]; simp)]
    exact wayz _ _ (both_pick _ ha ra) (both_pick _ hb rb)
  · have hu2 : (is.getD p default).uq = false := by simpa using hu
    rw [if_neg hu, if_neg hu, ← keys_append, ← keys_append]
    have h := wayz (pickL a (is.getD p default).cols ++ pickL a (is.getD 0 default).cols) (pickL b (is.getD p default).cols ++ pickL b (is.getD 0 default).cols)
      (fun x hx => (List.mem_append.1 hx).elim (both_pick _ ha ra x) (both_pick _ ha ra x)) (fun x hx => (List.mem_append.1 hx).elim (both_pick _ hb rb x) (both_pick _ hb rb x))
    rw [valRows_app _ _ _ _ (by rw [pick_len_eq hpa, pick_len_eq hpb])] at h
    by_cases h0 : valRows (pickL a (is.getD p default).cols) (pickL b (is.getD p default).cols) = 0
    · rw [if_neg (by rw [h0]; simp)] at h
      rw [if_pos ⟨h0, hu2⟩]; exact h
    · rw [if_pos h0] at h
      rw [if_neg (by rintro ⟨h1, _⟩; exact h0 h1)]; exact h
set_option maxRecDepth 100000 in
set_option maxHeartbeats 8000000 in
/-- Whether any row fits any schema. -/
theorem fits_sch (v : Value) (s : Sch) (D : Option Addr) (n cd : Nat) (vs : List Val) (w : World) (hv : SchV w v s) (hf : FitS s) (hA : Vals w D vs) (hn : vs.length = n) (hfv : ∀ x ∈ vs, FitV x) (hs : n ≤ 1000) :
    Calls Try.prog 23/-f-/ #[v, .slice D n cd] w fun e w' => e = .returned (.bool (schB s && fitsB s.cols vs)) ∧ Below w.heap.size w w' := by
  subst hn
  have HV := Lib.hid hv
  have HF := Lib.hid hf
  have HA := Lib.hid hA
  have HFV := Lib.hid hfv
  obtain ⟨A, B, c, d, rfl, hC, hI, hc, hd⟩ := hv.is
  obtain ⟨r, hr⟩ : ∃ r, r = (schB s && fitsB s.cols vs) := ⟨_, rfl⟩
  rw [← hr]
  have HR := Lib.hid hr
  have HB0 := Lib.hid ((Below.refl w.heap.size w).alloc (Nat.le_refl _) (.cells #[.string s.nm, .slice A s.cols.length c, .slice B s.idx.length d, .int .i64 s.limit, .int .i64 s.parts, .int .i64 s.by_] 25))
  have BL := Lib.hid (Blk.new w 25 #[.string s.nm, .slice A s.cols.length c, .slice B s.idx.length d, .int .i64 s.limit, .int .i64 s.parts, .int .i64 s.by_])
  have C1' := fun W hW => right_sch (.agg #[.string s.nm, .slice A s.cols.length c, .slice B s.idx.length d, .int .i64 s.limit, .int .i64 s.parts, .int .i64 s.by_]) s W hW HF.out
  have HC := Lib.hid hC
  have hcl := hf.clen
  obtain ⟨q1, hq1⟩ : ∃ q, q = schB s := ⟨_, rfl⟩
  have HQ1 := Lib.hid hq1
  clear hr hC hI hA hfv hf hv
  rw [← hq1] at C1'
  have C1 := Lib.hid C1'
  clear C1' hq1
  cases q1 with
  | false =>
    have HX := Lib.hid (show r = false from by rw [HR.out, ← HQ1.out]; rfl)
    go_enter Try.func23, Try.ntmps23
    go_wp2_with (go_at_call 15/-f-/; refine (C1.out _ (HV.out.keep HB0.out)).mono ?_; rintro e w1 ⟨rfl, hb1⟩; have HB1 := Lib.hid (HB0.out.trans (hb1.mono HB0.out.size)); clear hb1)
    go_ret
    exact ⟨ret_bool HX.out.symm, HB1.out⟩
  | true =>
    have HP := Lib.hid (schB_parts HQ1.out.symm)
    have C2 := Lib.hid (fun W hW hW2 => fits_any A D s.cols.length c vs.length cd s.cols vs W hW hW2 rfl rfl HFV.out (by have := HP.out.c8; omega) (by omega))
    have HX := Lib.hid (show r = fitsB s.cols vs from by rw [HR.out, ← HQ1.out]; rfl)
    obtain ⟨q2, hq2⟩ : ∃ q, q = fitsB s.cols vs := ⟨_, rfl⟩
    rw [← hq2] at C2 HX
    clear hq2
    go_enter Try.func23, Try.ntmps23
    go_wp2_with (first
      | (go_at_call 15/-f-/; refine (C1.out _ (HV.out.keep HB0.out)).mono ?_; rintro e w1 ⟨rfl, hb1⟩; have HB1 := Lib.hid (HB0.out.trans (hb1.mono HB0.out.size)); have BL2 := BL.out.below hb1 BL.out.lt; have c1 := BL2.cell 1; have hlt2 := BL2.lt; simp only [List.getElem?_toArray, List.getElem?_cons_zero, List.getElem?_cons_succ] at c1; clear hb1 BL2)
      | (go_at_call 43/-f-/; refine (C2.out _ (HC.out.keep HB1.out) (HA.out.keep HB1.out)).mono ?_; rintro e w2 ⟨rfl, hb2⟩; have HB2 := Lib.hid (HB1.out.trans (hb2.mono HB1.out.size)); clear hb2))
    go_ret
    exact ⟨ret_bool HX.out.symm, HB2.out⟩
end Go.Proofs.Ytddejkmfffeikaa

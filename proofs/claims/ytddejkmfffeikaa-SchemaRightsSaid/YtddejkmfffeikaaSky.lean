/- Contracts of package schema: the keys of any row by any index. -/
import Derived.Test.YtddejkmfffeikaaKeyx
namespace Go.Proofs.Ytddejkmfffeikaa
open Go.ChangeShapes Go.WideShapes Go.ChangeAt Go.RowKit
structure SchP (s : Sch) : Prop where
  c1 : 1 ≤ s.cols.length
  c8 : s.cols.length ≤ 8
  i1 : 1 ≤ s.idx.length
  i4 : s.idx.length ≤ 4
  uq : (s.idx.getD 0 default).uq = true
  ix : ∀ x ∈ s.idx, x.cols.length ≤ 8 ∧ x.cols.all (inB s.cols.length) = true
  p1 : 1 ≤ s.parts
  p8 : s.parts ≤ 8
  b0 : 0 ≤ s.by_
  b1 : s.by_ < s.cols.length
theorem schB_parts {s : Sch} (h : schB s = true) : SchP s := by
  unfold schB idxsB at h
  simp only [Bool.and_eq_true, decide_eq_true_eq] at h
  obtain ⟨⟨⟨⟨⟨⟨⟨⟨h1, h2⟩, ⟨⟨⟨⟨h3, h4⟩, h5⟩, h6⟩, h7⟩⟩, h8⟩, h9⟩, h10⟩, h11⟩, h12⟩, h13⟩ := h
  have hc := colsB_len h2
  refine ⟨hc.1, hc.2, h3, h4, h5, fun x hx => ?_, h10, h11, h12, h13⟩
  have h14 := List.all_eq_true.1 h6 x hx
  unfold idxB plaB at h14
  simp only [Bool.and_eq_true, decide_eq_true_eq] at h14
  exact ⟨by omega, h14.1.2⟩
def hasB (s : Sch) (i : Int) : Bool := decide (0 ≤ i) && decide (i < s.idx.length)
def keyE (s : Sch) (i : Int) (vs : List Val) : Int := if schB s && hasB s i then (if fitsB s.cols vs then 0 else 13) else 1
def keyS (s : Sch) (i : Int) (vs : List Val) : ByteArray := if schB s && hasB s i && fitsB s.cols vs then ⟨(keyX s.idx i.toNat vs).toArray⟩ else ⟨#[]⟩
theorem ret_key {a b : ByteArray} {c d : Int} (h : a = b) (h' : c = d) : Ending.returned (.tuple #[.string a, .int .i64 c]) = .returned (.tuple #[.string b, .int .i64 d]) := by rw [h, h']
set_option maxRecDepth 100000 in
set_option maxHeartbeats 16000000 in
theorem skey_any (v : Value) (s : Sch) (i : Int) (D : Option Addr) (n cd : Nat) (vs : List Val) (w : World) (hv : SchV w v s) (hf : FitS s) (hA : Vals w D vs) (hn : vs.length = n) (hfv : ∀ x ∈ vs, FitV x) (hz : ∀ x ∈ vs, x.s.size ≤ 300) (hs : n ≤ 1000) (hi0 : -9223372036854775808 ≤ i) (hi1 : i ≤ 9223372036854775807) :
    Calls Try.prog 20/-f-/ #[v, .int .i64 i, .slice D n cd] w fun e w' => e = .returned (.tuple #[.string (keyS s i vs), .int .i64 (keyE s i vs)]) ∧ Below w.heap.size w w' := by
  subst hn
  have HV := Lib.hid hv
  have HF := Lib.hid hf
  have HA := Lib.hid hA
  have HFV := Lib.hid hfv
  have HZ := Lib.hid hz
  obtain ⟨A, B, c, d, rfl, hC, hI, hc, hd⟩ := hv.is
  obtain ⟨r1, hr1⟩ : ∃ r, r = keyS s i vs := ⟨_, rfl⟩
  obtain ⟨r2, hr2⟩ : ∃ r, r = keyE s i vs := ⟨_, rfl⟩
  rw [← hr1, ← hr2]
  have HR1 := Lib.hid hr1
  have HR2 := Lib.hid hr2
  have HB0 := Lib.hid ((Below.refl w.heap.size w).alloc (Nat.le_refl _) (.cells #[.string s.nm, .slice A s.cols.length c, .slice B s.idx.length d, .int .i64 s.limit, .int .i64 s.parts, .int .i64 s.by_] 25))
  have BL := Lib.hid (Blk.new w 25 #[.string s.nm, .slice A s.cols.length c, .slice B s.idx.length d, .int .i64 s.limit, .int .i64 s.parts, .int .i64 s.by_])
  have C1 := Lib.hid (fun W hW => right_sch (.agg #[.string s.nm, .slice A s.cols.length c, .slice B s.idx.length d, .int .i64 s.limit, .int .i64 s.parts, .int .i64 s.by_]) s W hW HF.out)
  have HC := Lib.hid hC
  have HI := Lib.hid hI
  have hil := hf.ilen
  have hcl := hf.clen
  obtain ⟨q1, hq1⟩ : ∃ q, q = schB s := ⟨_, rfl⟩
  have HQ1 := Lib.hid hq1
  have C1' := C1.out
  clear hr1 hr2 hC hI hA hfv hz hf hv C1
  have C1 := Lib.hid (fun W hW => C1' W hW)
  rw [← hq1] at C1
  clear C1' hq1
  cases q1 with
  | false =>
    have HX1 := Lib.hid (show r1 = ⟨#[]⟩ from by rw [HR1.out]; unfold keyS; rw [← HQ1.out]; rfl)
    have HX2 := Lib.hid (show r2 = 1 from by rw [HR2.out]; unfold keyE; rw [← HQ1.out]; rfl)
    go_enter Try.func20, Try.ntmps20
    go_wp2_with (first
        | (go_at_call 15/-f-/; refine (C1.out _ (HV.out.keep HB0.out)).mono ?_; rintro e w1 ⟨rfl, hb1⟩; have HB1 := Lib.hid (HB0.out.trans (hb1.mono HB0.out.size)); have BL2 := BL.out.below hb1 BL.out.lt; have c0 := BL2.cell 0; have c1 := BL2.cell 1; have c2 := BL2.cell 2; have c3 := BL2.cell 3; have c4 := BL2.cell 4; have c5 := BL2.cell 5; have hlt2 := BL2.lt; simp only [List.getElem?_toArray, List.getElem?_cons_zero, List.getElem?_cons_succ] at c0 c1 c2 c3 c4 c5; have HBL2 := Lib.hid BL2; clear hb1 BL2))
    go_ret2
    exact ⟨ret_key HX1.out.symm HX2.out.symm, HB1.out⟩
  | true =>
  have HP := Lib.hid (schB_parts HQ1.out.symm)
  by_cases hlo : i < 0
  · have HH : hasB s i = false := by unfold hasB; rw [decide_eq_false (show ¬ 0 ≤ i by omega)]; rfl
    have HX1 := Lib.hid (show r1 = ⟨#[]⟩ from by rw [HR1.out]; unfold keyS; rw [HH, ← HQ1.out]; rfl)
    have HX2 := Lib.hid (show r2 = 1 from by rw [HR2.out]; unfold keyE; rw [HH, ← HQ1.out]; rfl)
    clear HH
    go_enter Try.func20, Try.ntmps20
    go_wp2_with (first
        | (go_at_call 15/-f-/; refine (C1.out _ (HV.out.keep HB0.out)).mono ?_; rintro e w1 ⟨rfl, hb1⟩; have HB1 := Lib.hid (HB0.out.trans (hb1.mono HB0.out.size)); have BL2 := BL.out.below hb1 BL.out.lt; have c0 := BL2.cell 0; have c1 := BL2.cell 1; have c2 := BL2.cell 2; have c3 := BL2.cell 3; have c4 := BL2.cell 4; have c5 := BL2.cell 5; have hlt2 := BL2.lt; simp only [List.getElem?_toArray, List.getElem?_cons_zero, List.getElem?_cons_succ] at c0 c1 c2 c3 c4 c5; have HBL2 := Lib.hid BL2; clear hb1 BL2))
    go_ret2
    exact ⟨ret_key HX1.out.symm HX2.out.symm, HB1.out⟩
  by_cases hup : s.idx.length ≤ i
  · have HH : hasB s i = false := by unfold hasB; rw [decide_eq_false (show ¬ i < s.idx.length by omega)]; simp
    have HX1 := Lib.hid (show r1 = ⟨#[]⟩ from by rw [HR1.out]; unfold keyS; rw [HH, ← HQ1.out]; rfl)
    have HX2 := Lib.hid (show r2 = 1 from by rw [HR2.out]; unfold keyE; rw [HH, ← HQ1.out]; rfl)
    clear HH
    go_enter Try.func20, Try.ntmps20
    go_wp2_with (first
        | (go_at_call 15/-f-/; refine (C1.out _ (HV.out.keep HB0.out)).mono ?_; rintro e w1 ⟨rfl, hb1⟩; have HB1 := Lib.hid (HB0.out.trans (hb1.mono HB0.out.size)); have BL2 := BL.out.below hb1 BL.out.lt; have c0 := BL2.cell 0; have c1 := BL2.cell 1; have c2 := BL2.cell 2; have c3 := BL2.cell 3; have c4 := BL2.cell 4; have c5 := BL2.cell 5; have hlt2 := BL2.lt; simp only [List.getElem?_toArray, List.getElem?_cons_zero, List.getElem?_cons_succ] at c0 c1 c2 c3 c4 c5; have HBL2 := Lib.hid BL2; clear hb1 BL2))
    go_ret2
    exact ⟨ret_key HX1.out.symm HX2.out.symm, HB1.out⟩
  have HH := Lib.hid (show hasB s i = true from by unfold hasB; rw [decide_eq_true (show 0 ≤ i by omega), decide_eq_true (show i < s.idx.length by omega)]; rfl)
  have C2 := Lib.hid (fun W hW hW2 => fits_any A D s.cols.length c vs.length cd s.cols vs W hW hW2 rfl rfl HFV.out (by have := HP.out.c8; omega) (by omega))
  obtain ⟨q2, hq2⟩ : ∃ q, q = fitsB s.cols vs := ⟨_, rfl⟩
  rw [← hq2] at C2
  have HQ2 := Lib.hid hq2
  clear hq2
  cases q2 with
  | false =>
    have HX1 := Lib.hid (show r1 = ⟨#[]⟩ from by rw [HR1.out]; unfold keyS; rw [HH.out, ← HQ1.out, ← HQ2.out]; rfl)
    have HX2 := Lib.hid (show r2 = 13 from by rw [HR2.out]; unfold keyE; rw [HH.out, ← HQ1.out, ← HQ2.out]; rfl)
    go_enter Try.func20, Try.ntmps20
    go_wp2_with (first
        | (go_at_call 15/-f-/; refine (C1.out _ (HV.out.keep HB0.out)).mono ?_; rintro e w1 ⟨rfl, hb1⟩; have HB1 := Lib.hid (HB0.out.trans (hb1.mono HB0.out.size)); have BL2 := BL.out.below hb1 BL.out.lt; have c0 := BL2.cell 0; have c1 := BL2.cell 1; have c2 := BL2.cell 2; have c3 := BL2.cell 3; have c4 := BL2.cell 4; have c5 := BL2.cell 5; have hlt2 := BL2.lt; simp only [List.getElem?_toArray, List.getElem?_cons_zero, List.getElem?_cons_succ] at c0 c1 c2 c3 c4 c5; have HBL2 := Lib.hid BL2; clear hb1 BL2)
        | (go_at_call 43/-f-/; refine (C2.out _ (HC.out.keep HB1.out) (HA.out.keep HB1.out)).mono ?_; rintro e w2 ⟨rfl, hb2⟩; have HB2 := Lib.hid (HB1.out.trans (hb2.mono HB1.out.size)); clear c0 c1 c2 c3 c4 c5 hlt2; have BL3 := HBL2.out.below hb2 HBL2.out.lt; have c0 := BL3.cell 0; have c1 := BL3.cell 1; have c2 := BL3.cell 2; have c3 := BL3.cell 3; have c4 := BL3.cell 4; have c5 := BL3.cell 5; have hlt2 := BL3.lt; simp only [List.getElem?_toArray, List.getElem?_cons_zero, List.getElem?_cons_succ] at c0 c1 c2 c3 c4 c5; clear hb2 BL3))
    go_ret2
    exact ⟨ret_key HX1.out.symm HX2.out.symm, HB2.out⟩
  | true =>
    have hrall : rall vs = true := by
      have h := HQ2.out
      unfold fitsB at h
      have h2 := h.symm
      simp only [Bool.and_eq_true] at h2
      exact h2.1.2
    obtain ⟨p, hp⟩ : ∃ p : Nat, i = p := ⟨i.toNat, by omega⟩
    subst hp
    have hpl : p < s.idx.length := by omega
    have C3 := Lib.hid (fun W hW hW2 => keyx_any B D s.idx.length d vs.length cd s.idx p vs W hW hW2 rfl rfl HFV.out HZ.out hrall hpl (HF.out.idx) (fun x hx => by have := (HP.out.ix x hx).1; omega) HP.out.uq (by have := HP.out.i4; omega) (by omega))
    have HX1 := Lib.hid (show r1 = ⟨(keyX s.idx p vs).toArray⟩ from by rw [HR1.out]; unfold keyS; rw [HH.out, ← HQ1.out, ← HQ2.out]; rfl)
    have HX2 := Lib.hid (show r2 = 0 from by rw [HR2.out]; unfold keyE; rw [HH.out, ← HQ1.out, ← HQ2.out]; rfl)
    clear hrall
    go_enter Try.func20, Try.ntmps20
    go_wp2_with (first
        | (go_at_call 15/-f-/; refine (C1.out _ (HV.out.keep HB0.out)).mono ?_; rintro e w1 ⟨rfl, hb1⟩; have HB1 := Lib.hid (HB0.out.trans (hb1.mono HB0.out.size)); have BL2 := BL.out.below hb1 BL.out.lt; have c0 := BL2.cell 0; have c1 := BL2.cell 1; have c2 := BL2.cell 2; have c3 := BL2.cell 3; have c4 := BL2.cell 4; have c5 := BL2.cell 5; have hlt2 := BL2.lt; simp only [List.getElem?_toArray, List.getElem?_cons_zero, List.getElem?_cons_succ] at c0 c1 c2 c3 c4 c5; have HBL2 := Lib.hid BL2; clear hb1 BL2)
        | (go_at_call 43/-f-/; refine (C2.out _ (HC.out.keep HB1.out) (HA.out.keep HB1.out)).mono ?_; rintro e w2 ⟨rfl, hb2⟩; have HB2 := Lib.hid (HB1.out.trans (hb2.mono HB1.out.size)); clear c0 c1 c2 c3 c4 c5 hlt2; have BL3 := HBL2.out.below hb2 HBL2.out.lt; have c0 := BL3.cell 0; have c1 := BL3.cell 1; have c2 := BL3.cell 2; have c3 := BL3.cell 3; have c4 := BL3.cell 4; have c5 := BL3.cell 5; have hlt2 := BL3.lt; simp only [List.getElem?_toArray, List.getElem?_cons_zero, List.getElem?_cons_succ] at c0 c1 c2 c3 c4 c5; clear hb2 BL3)
        | (go_at_call 44/-f-/; refine (C3.out _ (HI.out.keep HB2.out) (HA.out.keep HB2.out)).mono ?_; rintro e w3 ⟨rfl, hb3⟩; have HB3 := Lib.hid (HB2.out.trans (hb3.mono HB2.out.size)); clear hb3))
    go_ret2
    exact ⟨ret_key HX1.out.symm HX2.out.symm, HB3.out⟩
end Go.Proofs.Ytddejkmfffeikaa

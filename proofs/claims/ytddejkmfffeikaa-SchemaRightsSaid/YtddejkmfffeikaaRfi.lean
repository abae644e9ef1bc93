/- Contracts of the document's schema: whether a row fits; keys. And schema's check and partition. -/
import Derived.Test.YtddejkmfffeikaaStm
import Derived.Test.YtddejkmfffeikaaRkt
import Derived.Test.YtddejkmfffeikaaSpq
namespace Go.Proofs.Ytddejkmfffeikaa
open Go.ChangeShapes Go.WideShapes Go.ChangeAt Go.RowKit
/-- Why a row has no keys by a schema. -/
def chkE (s : Sch) (vs : List Val) : Int := if schB s then (if fitsB s.cols vs then 0 else 13) else 1
set_option maxRecDepth 100000 in
set_option maxHeartbeats 8000000 in
theorem check_any (v : Value) (s : Sch) (D : Option Addr) (n cd : Nat) (vs : List Val) (w : World) (hv : SchV w v s) (hf : FitS s) (hA : Vals w D vs) (hn : vs.length = n) (hfv : ∀ x ∈ vs, FitV x) (hs : n ≤ 1000) :
    Calls Try.prog 45/-f-/ #[v, .slice D n cd] w fun e w' => e = .returned (.int .i64 (chkE s vs)) ∧ Below w.heap.size w w' := by
  subst hn
  have HV := Lib.hid hv
  have HF := Lib.hid hf
  have HA := Lib.hid hA
  have HFV := Lib.hid hfv
  obtain ⟨A, B, c, d, rfl, hC, hI, hc, hd⟩ := hv.is
  obtain ⟨r, hr⟩ : ∃ r, r = chkE s vs := ⟨_, rfl⟩
  rw [← hr]
  have HR := Lib.hid hr
  have HB0 := Lib.hid ((Below.refl w.heap.size w).alloc (Nat.le_refl _) (.cells #[.string s.nm, .slice A s.cols.length c, .slice B s.idx.length d, .int .i64 s.limit, .int .i64 s.parts, .int .i64 s.by_] 25))
  have BL := Lib.hid (Blk.new w 25 #[.string s.nm, .slice A s.cols.length c, .slice B s.idx.length d, .int .i64 s.limit, .int .i64 s.parts, .int .i64 s.by_])
  have C1' := fun W hW => right_sch (.agg #[.string s.nm, .slice A s.cols.length c, .slice B s.idx.length d, .int .i64 s.limit, .int .i64 s.parts, .int .i64 s.by_]) s W hW HF.out
  have HC := Lib.hid hC
  have hcl := hf.clen
  obtain ⟨q1, hq1⟩ : ∃ q, q = schB s := ⟨_, rfl⟩
  have HQ1 := Lib.hid hq1
  clear hr hC hI hA hfv hf hv
  rw [← hq1] at C1'
  have C1 := Lib.hid C1'
  clear C1' hq1
  cases q1 with
  | false =>
    have HX := Lib.hid (show r = 1 from by rw [HR.out]; unfold chkE; rw [← HQ1.out]; rfl)
    go_enter Try.func45, Try.ntmps45
    go_wp2_with (go_at_call 15/-f-/; refine (C1.out _ (HV.out.keep HB0.out)).mono ?_; rintro e w1 ⟨rfl, hb1⟩; have HB1 := Lib.hid (HB0.out.trans (hb1.mono HB0.out.size)); clear hb1)
    go_ret
    exact ⟨ret_int HX.out.symm, HB1.out⟩
  | true =>
    have HP := Lib.hid (schB_parts HQ1.out.symm)
    have C2' := fun W hW hW2 => fits_any A D s.cols.length c vs.length cd s.cols vs W hW hW2 rfl rfl HFV.out (by have := HP.out.c8; omega) (by omega)
    obtain ⟨q2, hq2⟩ : ∃ q, q = fitsB s.cols vs := ⟨_, rfl⟩
    rw [← hq2] at C2'
    have C2 := Lib.hid C2'
    have HX := Lib.hid (show r = (if q2 then 0 else 13) from by rw [HR.out]; unfold chkE; rw [← HQ1.out, ← hq2]; rfl)
    clear hq2 C2'
    cases q2 with
    | false =>
      go_enter Try.func45, Try.ntmps45
      go_wp2_with (first
        | (go_at_call 15/-f-/; refine (C1.out _ (HV.out.keep HB0.out)).mono ?_; rintro e w1 ⟨rfl, hb1⟩; have HB1 := Lib.hid (HB0.out.trans (hb1.mono HB0.out.size)); have BL2 := BL.out.below hb1 BL.out.lt; have c1 := BL2.cell 1; have hlt2 := BL2.lt; simp only [List.getElem?_toArray, List.getElem?_cons_zero, List.getElem?_cons_succ] at c1; clear hb1 BL2)
        | (go_at_call 43/-f-/; refine (C2.out _ (HC.out.keep HB1.out) (HA.out.keep HB1.out)).mono ?_; rintro e w2 ⟨rfl, hb2⟩; have HB2 := Lib.hid (HB1.out.trans (hb2.mono HB1.out.size)); clear hb2))
      go_ret
      exact ⟨ret_int HX.out.symm, HB2.out⟩
    | true =>
      go_enter Try.func45, Try.ntmps45
      go_wp2_with (first
        | (go_at_call 15/-f-/; refine (C1.out _ (HV.out.keep HB0.out)).mono ?_; rintro e w1 ⟨rfl, hb1⟩; have HB1 := Lib.hid (HB0.out.trans (hb1.mono HB0.out.size)); have BL2 := BL.out.below hb1 BL.out.lt; have c1 := BL2.cell 1; have hlt2 := BL2.lt; simp only [List.getElem?_toArray, List.getElem?_cons_zero, List.getElem?_cons_succ] at c1; clear hb1 BL2)
        | (go_at_call 43/-f-/; refine (C2.out _ (HC.out.keep HB1.out) (HA.out.keep HB1.out)).mono ?_; rintro e w2 ⟨rfl, hb2⟩; have HB2 := Lib.hid (HB1.out.trans (hb2.mono HB1.out.size)); clear hb2))
      go_ret
      exact ⟨ret_int HX.out.symm, HB2.out⟩
end Go.Proofs.Ytddejkmfffeikaa

/- Contracts of package schema: keys by an index. -/
import Derived.Test.YtddejkmfffeikaaPcl
namespace Go.Proofs.Ytddejkmfffeikaa
open Go.ChangeShapes Go.WideShapes Go.ChangeAt Go.RowKit
/-- The key by an index, of a row that fits. -/
def keyU (vs : List Val) (x : Ind) : List UInt8 := keysOf (pickL vs x.cols)
def keyX (is : List Ind) (i : Nat) (vs : List Val) : List UInt8 := keyU vs (is.getD i default) ++ if (is.getD i default).uq = true then [] else keyU vs (is.getD 0 default)
theorem atV_mem (vs : List Val) (p : Int) (h : inB vs.length p = true) : atV vs p ∈ vs := by
  unfold inB at h
  simp only [Bool.and_eq_true, decide_eq_true_eq] at h
  exact getD_mem vs p.toNat (by omega)
theorem pick_in (vs : List Val) (xs : List Int) : ∀ x ∈ pickL vs xs, x ∈ vs := by
  intro x hx
  unfold pickL at hx
  split at hx
  · rename_i h
    obtain ⟨p, hp, rfl⟩ := List.mem_map.1 hx
    exact atV_mem vs p (List.all_eq_true.1 h p hp)
  · cases hx
theorem pick_len (vs : List Val) (xs : List Int) : (pickL vs xs).length ≤ xs.length := by
  unfold pickL
  split
  · simp
  · simp
theorem pick_right (vs : List Val) (xs : List Int) (h : rall vs = true) : rall (pickL vs xs) = true := by
  unfold rall at *
  rw [List.all_eq_true] at *
  exact fun x hx => h x (pick_in vs xs x hx)
theorem keyU_len (vs : List Val) (x : Ind) (h : ∀ v ∈ vs, v.s.size ≤ 300) (hx : x.cols.length ≤ 100) : (keyU vs x).length ≤ 70000 := by
  unfold keyU
  have h1 := keysOf_len (pickL vs x.cols) (fun v hv => h v (pick_in vs x.cols v hv))
  have h2 := pick_len vs x.cols
  omega
theorem str_size (a : List UInt8) : (⟨a.toArray⟩ : ByteArray).size = a.length := by simp [ByteArray.size]
set_option maxRecDepth 100000 in
set_option maxHeartbeats 8000000 in
/-- Of a unique index. -/
theorem keyu_any (A B : Option Addr) (n c m d : Nat) (is : List Ind) (i : Nat) (vs : List Val) (w : World) (hA : Inds w A is) (hB : Vals w B vs) (hn : is.length = n) (hm : vs.length = m) (hf : ∀ x ∈ vs, FitV x) (hz : ∀ x ∈ vs, x.s.size ≤ 300) (hr : rall vs = true)
    (hi : i < is.length) (hfi : FitI (is.getD i default)) (hci : (is.getD i default).cols.length ≤ 100) (hu : (is.getD i default).uq = true) (hs : n ≤ 1000000) (hs' : m ≤ 1000) :
    Calls Try.prog 44/-f-/ #[.slice A n c, .int .i64 i, .slice B m d] w fun e w' => e = .returned (.string ⟨(keyU vs (is.getD i default)).toArray⟩) ∧ Below w.heap.size w w' := by
  subst hn hm
  rcases hA with h | ⟨b, off, rfl, hbw, hcell⟩
  · subst h; simp at hi
  obtain ⟨Ak, ck, x0, x1, x2, x3⟩ := hcell i hi
  have HX2 := Lib.hid x2
  have HB := Lib.hid hB
  have hii : (i : Int) < is.length := by omega
  clear hcell x2 x3 hB
  generalize is.getD i default = x at *
  obtain ⟨xc, xu⟩ := x
  simp only at x0 x1 HX2 hci hu
  subst hu
  have P := Lib.hid (pick_any B Ak vs.length d xc.length ck vs xc w HB.out HX2.out rfl rfl hfi.cols (by omega) (by omega))
  have hpl := pick_len vs xc
  have K := Lib.hid (fun W A5 c5 hV => key_ok A5 (pickL vs xc).length c5 (pickL vs xc) W hV rfl (fun x hx => hf x (pick_in vs xc x hx)) (by omega) (fun x hx => hz x (pick_in vs xc x hx)) (pick_right vs xc hr))
  have HKU := Lib.hid (show keyU vs ⟨xc, true⟩ = keysOf (pickL vs xc) from rfl)
  obtain ⟨L, hL⟩ : ∃ L, L = pickL vs xc := ⟨_, rfl⟩
  rw [← hL] at P K HKU
  rw [HKU.out]
  clear hfi hL hpl hf hz hr HKU
  go_enter Try.func44, Try.ntmps44
  go_wp2_with (first
    | (go_at_call 26/-f-/; refine P.out.mono ?_; rintro e w1 ⟨⟨u, rfl, hu⟩, hb1⟩; obtain ⟨A5, c5, rfl, hv5, _⟩ := hu.vals; have K2 := Lib.hid (K.out w1 A5 c5 hv5); have y1 := (hb1.cell (p := ⟨b, off + i * 2 + 1, none⟩) hbw).trans x1; have hbw1 : b < w1.heap.size := Nat.lt_of_lt_of_le hbw hb1.size; have HB1 := Lib.hid hb1; clear hv5 hu hb1)
    | (go_at_call 60/-f-/; refine K2.out.mono ?_; rintro e w2 ⟨rfl, hb2⟩; have z1 := (hb2.cell (p := ⟨b, off + i * 2 + 1, none⟩) hbw1).trans y1; have hbw2 : b < w2.heap.size := Nat.lt_of_lt_of_le hbw1 hb2.size; have HB2 := Lib.hid (HB1.out.trans (hb2.mono HB1.out.size)); clear hb2))
  go_ret
  exact ⟨rfl, HB2.out⟩
set_option maxRecDepth 100000 in
set_option maxHeartbeats 8000000 in
theorem keyx_any (A B : Option Addr) (n c m d : Nat) (is : List Ind) (i : Nat) (vs : List Val) (w : World) (hA : Inds w A is) (hB : Vals w B vs) (hn : is.length = n) (hm : vs.length = m) (hf : ∀ x ∈ vs, FitV x) (hz : ∀ x ∈ vs, x.s.size ≤ 300) (hr : rall vs = true)
    (hi : i < is.length) (hfi : ∀ x ∈ is, FitI x) (hci : ∀ x ∈ is, x.cols.length ≤ 100) (hu : (is.getD 0 default).uq = true) (hs : n ≤ 1000000) (hs' : m ≤ 1000) :
    Calls Try.prog 44/-f-/ #[.slice A n c, .int .i64 i, .slice B m d] w fun e w' => e = .returned (.string ⟨(keyX is i vs).toArray⟩) ∧ Below w.heap.size w w' := by
  by_cases hui : (is.getD i default).uq = true
  · have := keyu_any A B n c m d is i vs w hA hB hn hm hf hz hr hi (hfi _ (getD_in is i hi)) (hci _ (getD_in is i hi)) hui hs hs'
    unfold keyX
    rw [if_pos hui, List.append_nil]
    exact this
  have hlen1 := keyU_len vs (is.getD i default) hz (hci _ (getD_in is i hi))
  have hlen0 := keyU_len vs (is.getD 0 default) hz (hci _ (getD_in is 0 (by omega)))
  have R := Lib.hid (fun W hW hW2 => keyu_any A B n c m d is 0 vs W hW hW2 hn hm hf hz hr (by omega) (hfi _ (getD_in is 0 (by omega))) (hci _ (getD_in is 0 (by omega))) hu hs hs')
  have HKX := Lib.hid (show keyX is i vs = keyU vs (is.getD i default) ++ keyU vs (is.getD 0 default) from by unfold keyX; rw [if_neg hui])
  rw [HKX.out]
  clear HKX
  subst hn hm
  have HA := Lib.hid hA
  rcases hA with h | ⟨b, off, rfl, hbw, hcell⟩
  · subst h; simp at hi
  obtain ⟨Ak, ck, x0, x1, x2, x3⟩ := hcell i hi
  have HX2 := Lib.hid x2
  have HB := Lib.hid hB
  have hii : (i : Int) < is.length := by omega
  have hfx := hfi _ (getD_in is i hi)
  have hcx := hci _ (getD_in is i hi)
  clear hcell x2 x3 hB hfi hci hu
  obtain ⟨T0, hT0⟩ : ∃ T : ByteArray, T = ⟨(keyU vs (is.getD 0 default)).toArray⟩ := ⟨_, rfl⟩
  rw [← hT0] at R
  have hT0s : T0.size ≤ 70000 := by rw [hT0, str_size]; exact hlen0
  have HT0 := Lib.hid hT0
  clear hT0 hlen0
  generalize is.getD i default = x at *
  obtain ⟨xc, xu⟩ := x
  simp only at x0 x1 HX2 hcx hui
  have hxu : xu = false := by simpa using hui
  subst hxu
  have P := Lib.hid (pick_any B Ak vs.length d xc.length ck vs xc w HB.out HX2.out rfl rfl hfx.cols (by omega) (by omega))
  have hpl := pick_len vs xc
  have K := Lib.hid (fun W A5 c5 hV => key_ok A5 (pickL vs xc).length c5 (pickL vs xc) W hV rfl (fun x hx => hf x (pick_in vs xc x hx)) (by omega) (fun x hx => hz x (pick_in vs xc x hx)) (pick_right vs xc hr))
  have HKU := Lib.hid (show keyU vs ⟨xc, false⟩ = keysOf (pickL vs xc) from rfl)
  obtain ⟨L, hL⟩ : ∃ L, L = pickL vs xc := ⟨_, rfl⟩
  rw [← hL] at P K HKU
  rw [HKU.out] at hlen1
  obtain ⟨T, hT⟩ : ∃ T : ByteArray, T = ⟨(keysOf L).toArray⟩ := ⟨_, rfl⟩
  rw [← hT] at K
  have hTs : T.size ≤ 70000 := by rw [hT, str_size]; exact hlen1
  have HT := Lib.hid hT
  have hcc : ¬ (9223372036854775807 < T.size + T0.size) := by omega
  clear hfx hL hpl hf hz hr hT hlen1 hui
  go_enter Try.func44, Try.ntmps44
  go_upto_region 3 with (first
    | (go_at_call 26/-f-/; refine P.out.mono ?_; rintro e w1 ⟨⟨u, rfl, hu⟩, hb1⟩; obtain ⟨A5, c5, rfl, hv5, _⟩ := hu.vals; have K2 := Lib.hid (K.out w1 A5 c5 hv5); have y1 := (hb1.cell (p := ⟨b, off + i * 2 + 1, none⟩) hbw).trans x1; have hbw1 : b < w1.heap.size := Nat.lt_of_lt_of_le hbw hb1.size; have HB1 := Lib.hid hb1; clear hv5 hu hb1)
    | (go_at_call 60/-f-/; refine K2.out.mono ?_; rintro e w2 ⟨rfl, hb2⟩; have z1 := (hb2.cell (p := ⟨b, off + i * 2 + 1, none⟩) hbw1).trans y1; have hbw2 : b < w2.heap.size := Nat.lt_of_lt_of_le hbw1 hb2.size; have HB2 := Lib.hid (HB1.out.trans (hb2.mono HB1.out.size)); clear hb2))
  go_wp2_with (go_at_call 44/-f-/; refine (R.out w2 (HA.out.keep HB2.out) (HB.out.keep HB2.out)).mono ?_; rintro e w3 ⟨rfl, hb3⟩)
  go_ret
  refine ⟨congrArg (fun q => Ending.returned (.string q)) ?_, HB2.out.trans (hb3.mono HB2.out.size)⟩
  rw [HKU.out, HT.out, HT0.out]
  exact ByteArray.mk_append_mk _ _
end Go.Proofs.Ytddejkmfffeikaa

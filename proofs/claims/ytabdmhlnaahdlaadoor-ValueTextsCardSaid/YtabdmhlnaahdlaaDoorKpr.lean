/- Contracts of package value: Key, Print; the document's examples. -/
import Derived.Test.YtabdmhlnaahdlaaDoorRep
import Derived.Test.YtabdmhlnaahdlaaDoorRefS
namespace Go.Proofs.YtabdmhlnaahdlaaDoor
open Go.ChangeShapes Go.WideShapes Go.ChangeAt Go.RowKit
theorem keysOf_take (vs : List Val) (k : Nat) (h : k < vs.length) : keysOf (vs.take (k + 1)) = keysOf (vs.take k) ++ keyOf (vs.getD k default) := by
  unfold keysOf
  rw [List.take_succ_eq_append_getElem h, List.flatMap_append]
  simp [List.getD, List.getElem?_eq_getElem h]
theorem keysOf_len (vs : List Val) (h : ∀ x ∈ vs, x.s.size ≤ 300) : (keysOf vs).length ≤ 700 * vs.length := by
  induction vs with
  | nil => simp [keysOf]
  | cons x r ih =>
    have h1 : keysOf (x :: r) = keyOf x ++ keysOf r := rfl
    have h2 := keyOf_len x (h x (by simp))
    have h3 := ih fun y hy => h y (by simp [hy])
    rw [h1, List.length_append, List.length_cons]
    omega
theorem keyOf_pos (x : Val) : 0 < (keyOf x).length := by
  unfold keyOf
  split
  · simp
  · split
    · simp
    · simp
theorem conv_nil (W : World) : (convert 72/-t-/ 9/-t-/ (.slice none 0 0)).run Tryd.prog W = .ok (.string ⟨#[]⟩) W := by
  rw [run_convert_bytes_string (P := Tryd.prog) W 72/-t-/ 9/-t-/ 5/-t-/ none 0 0 Tryd.underlying72/-t-/ Tryd.underlying5/-t-/ Tryd.underlying9/-t-/]
  rfl
theorem key_no (A : Option Addr) (n c : Nat) (vs : List Val) (w : World) (hA : Vals w A vs) (hn : vs.length = n) (hf : ∀ x ∈ vs, FitV x) (hs : n ≤ 1000) (hr : rall vs = false) :
    Calls Tryd.prog 30/-f-/ #[.slice A n c] w fun e w' => e = .returned (.string ⟨#[]⟩) ∧ Below w.heap.size w w' := by
  have RA := rightall_any A n c vs w hA hn hf (by omega)
  rw [hr] at RA
  have RA2 := Lib.hid RA
  clear RA
  go_enter Tryd.func30/-f-/, Tryd.ntmps30/-f-/
  go_wp2_with (go_at_call 20/-f-/; refine RA2.out.mono ?_; rintro e w1 ⟨rfl, hb1⟩)
  go_ret
  exact ⟨rfl, hb1⟩
set_option maxRecDepth 100000 in
set_option maxHeartbeats 8000000 in
theorem key_ok (A : Option Addr) (n c : Nat) (vs : List Val) (w : World) (hA : Vals w A vs) (hn : vs.length = n) (hf : ∀ x ∈ vs, FitV x) (hs : n ≤ 1000) (hz : ∀ x ∈ vs, x.s.size ≤ 300) (hr : rall vs = true) :
    Calls Tryd.prog 30/-f-/ #[.slice A n c] w fun e w' => e = .returned (.string ⟨(keysOf vs).toArray⟩) ∧ Below w.heap.size w w' := by
  subst hn
  have RA := rightall_any A vs.length c vs w hA rfl hf (by omega)
  rw [hr] at RA
  have RA2 := Lib.hid RA
  have HA := Lib.hid hA
  have HF := Lib.hid hf
  have HZ := Lib.hid hz
  have HR := Lib.hid (show ∀ x ∈ vs, rightB x.k x.n x.s = true from by
    unfold rall at hr
    exact fun x hx => List.all_eq_true.1 hr x hx)
  clear RA hA hf hz hr
  go_enter Tryd.func30/-f-/, Tryd.ntmps30/-f-/
  go_wp2_with (go_at_call 20/-f-/; refine RA2.out.mono ?_; rintro e w1 ⟨rfl, hb1⟩)
  go_loopw [3, 11] (fun v i wr => ∃ k : Nat, k ≤ vs.length ∧ i = .int .i64 k ∧ Below w.heap.size w wr ∧ Row8 wr w.heap.size v (keysOf (vs.take k)) ∧ Hid (k = 0 → v = .slice none 0 0)) (fun _ i _ => vs.length - (intOf i).toNat)
  case atStart => exact ⟨0, Nat.zero_le _, rfl, hb1, World.ownsRow_nil _ _ _ _, Lib.hid (fun _ => rfl)⟩
  case round =>
    obtain ⟨k, hk, rfl, hbl, hrow, hnil⟩ := hrel
    have hsz := hbl.size
    have HROW := Lib.hid hrow
    clear hrow
    by_cases hlt : k < vs.length
    · rcases HA.out with h | ⟨b, off, rfl, hbw, hcell⟩
      · subst h; simp at hlt
      obtain ⟨x0, x1, x2⟩ := hcell k hlt
      replace x0 := (hbl.cell (p := ⟨b, off + k * 3, none⟩) hbw).trans x0
      replace x1 := (hbl.cell (p := ⟨b, off + k * 3 + 1, none⟩) hbw).trans x1
      replace x2 := (hbl.cell (p := ⟨b, off + k * 3 + 2, none⟩) hbw).trans x2
      have hbw2 : b < wr.heap.size := Nat.lt_of_lt_of_le hbw hsz
      have HM := getD_mem vs k hlt
      have HT := Lib.hid (keysOf_take vs k hlt)
      have hl := keysOf_len (vs.take k) (fun x hx => HZ.out x (List.mem_of_mem_take hx))
      have hl2 : (vs.take k).length ≤ k := List.length_take_le _ _
      have hzx := HZ.out _ HM
      have HFX := Lib.hid (HF.out _ HM)
      have HRX := Lib.hid (HR.out _ HM)
      clear hcell HM
      generalize vs.getD k default = x at *
      have AK := Lib.hid (appendKey_any u3 (keysOf (vs.take k)) w.heap.size x (wr.alloc (.cells #[.int .i64 x.k, .int .i64 x.n, .string x.s] 35/-t-/)) (World.ownsRow.alloc HROW.out _) HRX.out HFX.out (by omega) (by simp; omega) (by omega))
      clear hl hl2
      go_wp2_with (go_at_call 60/-f-/; refine AK.out.mono ?_; rintro e w2 ⟨v2, rfl, hr2, hb2⟩; have HR2 := Lib.hid hr2; clear hr2)
      go_roundw
      case rel => exact ⟨k + 1, by omega, by go_num, (hbl.alloc hsz _).trans hb2, by rw [HT.out]; exact HR2.out, Lib.hid (fun h => by omega)⟩
      case measure => simp [intOf]; omega
    · have hkl : k = vs.length := by omega
      subst hkl
      rw [List.take_length] at HROW
      by_cases he : vs.length = 0
      · obtain rfl := hnil.out he
        have hv : vs = [] := List.eq_nil_of_length_eq_zero he
        have HV := Lib.hid hv
        have cn := conv_nil wr
        clear he hv
        go_wp2
        go_ret
        exact ⟨by rw [HV.out]; rfl, hbl⟩
      · have hpos : 0 < (keysOf vs).length := by
          cases vs with
          | nil => simp at he
          | cons x r =>
            have := keyOf_pos x
            show 0 < (keyOf x ++ keysOf r).length
            rw [List.length_append]; omega
        have cv := HROW.out.conv hpos
        clear hpos he
        go_wp2
        go_ret
        exact ⟨rfl, hbl⟩
/-- What the library's texts ask of memory: the table of powers, a number. -/
structure PT (w : World) : Prop where
  tab : Lib.TabIs Tryd.prog w "internal/strconv.uint64pow10" .u64 Lib.pow10Tab
  mx : ∃ m, w.cell? ⟨0, 0, none⟩ = some (.int .i64 m)
  lt : 1 < w.heap.size
theorem PT.below {B : Nat} {w w' : World} (h : PT w) (hb : Below B w w') (hB : w.heap.size ≤ B) : PT w' :=
  ⟨var?_below hb gPow (Nat.lt_of_lt_of_le h.lt hB) h.tab, by obtain ⟨m, hm⟩ := h.mx; exact ⟨m, (hb.cell (p := ⟨0, 0, none⟩) (by have := h.lt; show 0 < B; omega)).trans hm⟩, Nat.lt_of_lt_of_le h.lt hb.size⟩
theorem dbl_any (s : ByteArray) (w : World) (hT : PT w) (hs : s.size ≤ 1000000) :
    Calls Tryd.prog 61/-f-/ #[.string s, .string ⟨#[39]⟩, .string ⟨#[39, 39]⟩] w fun e w' => e = .returned (.string ⟨(dbl s.data.toList).toArray⟩) ∧ Below w.heap.size w w' := by
  obtain ⟨m, hm⟩ := hT.mx
  have hc := Lib.countB_le ⟨#[39]⟩ (by decide) s.size s (Nat.le_refl _)
  have h := Tryd.strings_ReplaceAll s ⟨#[39]⟩ ⟨#[39, 39]⟩ m w (by omega) hm (by decide) (by rw [show (⟨#[39, 39]⟩ : ByteArray).size = 2 from rfl]; omega)
  rw [rep_eq _ _ _ (by decide)] at h
  have e : rep (⟨#[39]⟩ : ByteArray).data.toList (⟨#[39, 39]⟩ : ByteArray).data.toList s.data.toList = dbl s.data.toList := rep_dbl _
  rw [e] at h
  exact h
theorem und_any (s : ByteArray) (w : World) (hT : PT w) (hs : s.size ≤ 1000000) :
    Calls Tryd.prog 61/-f-/ #[.string s, .string ⟨#[39, 39]⟩, .string ⟨#[39]⟩] w fun e w' => e = .returned (.string ⟨(und s.data.toList).toArray⟩) ∧ Below w.heap.size w w' := by
  obtain ⟨m, hm⟩ := hT.mx
  have hc := Lib.countB_le ⟨#[39, 39]⟩ (by decide) s.size s (Nat.le_refl _)
  have h := Tryd.strings_ReplaceAll s ⟨#[39, 39]⟩ ⟨#[39]⟩ m w (by omega) hm (by decide) (by rw [show (⟨#[39]⟩ : ByteArray).size = 1 from rfl]; omega)
  rw [rep_eq _ _ _ (by decide)] at h
  have e : rep (⟨#[39, 39]⟩ : ByteArray).data.toList (⟨#[39]⟩ : ByteArray).data.toList s.data.toList = und s.data.toList := rep_und _
  rw [e] at h
  exact h
/-- A right value's print. -/
def printOf (x : Val) : List UInt8 := if x.k = 1 then Lib.itoa x.n else if x.k = 2 then [39] ++ dbl x.s.data.toList ++ [39] else if x.n = 1 then [116, 114, 117, 101] else [102, 97, 108, 115, 101]
set_option maxHeartbeats 4000000 in
theorem printv_no (k n : Int) (s : ByteArray) (w : World) (hs : s.size ≤ 9223372036854775807) (hr : rightB k n s = false) :
    Calls Tryd.prog 34/-f-/ #[.agg #[.int .i64 k, .int .i64 n, .string s]] w fun e w' => e = .returned (.string ⟨#[]⟩) ∧ Below w.heap.size w w' := by
  go_enter Tryd.func34/-f-/, Tryd.ntmps34/-f-/
  go_wp2_with (go_at_call 56/-f-/; refine (right_any _ _ _ _ hs).mono ?_; rintro e w1 ⟨rfl, hb1⟩)
  go_ret
  exact ⟨rfl, ((Below.refl _ _).alloc (Nat.le_refl _) _).trans (hb1.mono (by simp))⟩
set_option maxRecDepth 100000 in
set_option maxHeartbeats 8000000 in
theorem printv_ok (x : Val) (w : World) (hT : PT w) (hf : FitV x) (hs : x.s.size ≤ 1000) (hr : rightB x.k x.n x.s = true) :
    Calls Tryd.prog 34/-f-/ #[.agg #[.int .i64 x.k, .int .i64 x.n, .string x.s]] w fun e w' => e = .returned (.string ⟨(printOf x).toArray⟩) ∧ Below w.heap.size w w' := by
  obtain ⟨k, n, s⟩ := x
  have hfs := hf.s
  obtain ⟨hn1, hn2⟩ := hf.n
  simp only at hs hr hfs hn1 hn2 ⊢
  have HT := Lib.hid hT
  clear hT hf
  by_cases h1 : k = 1
  · subst h1
    have HP := Lib.hid (show printOf ⟨1, n, s⟩ = Lib.itoa n from rfl)
    rw [HP.out]
    have PA := Lib.hid (fun W (h : PT W) => print_any n W hn1 hn2 h.tab)
    generalize (⟨(Lib.itoa n).toArray⟩ : ByteArray) = S at *
    go_enter Tryd.func34/-f-/, Tryd.ntmps34/-f-/
    go_wp2_with (first | (go_at_call 56/-f-/; refine (right_any _ _ _ _ hfs).mono ?_; rintro e w1 ⟨rfl, hb1⟩; have hq := hb1.cell (p := ⟨w.heap.size, 0, none⟩) (by simp); have hq1 := hb1.cell (p := ⟨w.heap.size, 1, none⟩) (by simp); have hq2 := hb1.cell (p := ⟨w.heap.size, 2, none⟩) (by simp); have hs1 := hb1.size; simp at hs1; have HT1 := Lib.hid (HT.out.below (((Below.refl _ _).alloc (Nat.le_refl _) _).trans (hb1.mono (by simp))) (Nat.le_refl _))) | (go_at_call 14/-f-/; refine (PA.out _ HT1.out).mono ?_; rintro e w2 ⟨rfl, hb2⟩))
    go_ret
    exact ⟨rfl, (((Below.refl _ _).alloc (Nat.le_refl _) _).trans (hb1.mono (by simp))).trans (hb2.mono (by omega))⟩
  by_cases h2 : k = 2
  · subst h2
    have DA := Lib.hid (fun W (h : PT W) => dbl_any s W h (by omega))
    have HD := Lib.hid (show printOf ⟨2, n, s⟩ = [39] ++ (⟨(dbl s.data.toList).toArray⟩ : ByteArray).data.toList ++ [39] from rfl)
    have hdl : (⟨(dbl s.data.toList).toArray⟩ : ByteArray).size ≤ 2000 := by
      have h := dbl_len s.data.toList
      have hs2 : s.data.toList.length = s.size := by simp
      show (dbl s.data.toList).toArray.size ≤ 2000
      rw [List.size_toArray]; omega
    generalize (⟨(dbl s.data.toList).toArray⟩ : ByteArray) = D at *
    clear h1
    go_enter Tryd.func34/-f-/, Tryd.ntmps34/-f-/
    go_wp2_with (first | (go_at_call 56/-f-/; refine (right_any _ _ _ _ hfs).mono ?_; rintro e w1 ⟨rfl, hb1⟩; have hq := hb1.cell (p := ⟨w.heap.size, 0, none⟩) (by simp); have hq1 := hb1.cell (p := ⟨w.heap.size, 1, none⟩) (by simp); have hq2 := hb1.cell (p := ⟨w.heap.size, 2, none⟩) (by simp); have hs1 := hb1.size; simp at hs1; have HT1 := Lib.hid (HT.out.below (((Below.refl _ _).alloc (Nat.le_refl _) _).trans (hb1.mono (by simp))) (Nat.le_refl _))) | (go_at_call 61/-f-/; refine (DA.out _ HT1.out).mono ?_; rintro e w2 ⟨rfl, hb2⟩))
    go_ret
    refine ⟨?_, (((Below.refl _ _).alloc (Nat.le_refl _) _).trans (hb1.mono (by simp))).trans (hb2.mono (by omega))⟩
    rw [HD.out]
    exact congrArg (fun x => Ending.returned (Value.string x)) (ByteArray.ext (by simp))
  by_cases h3 : k = 3
  · subst h3
    clear h1 h2
    rw [rightB_3] at hr
    have hn : n = 0 ∨ n = 1 := by simp at hr; exact hr.1
    rw [← rightB_3] at hr
    rcases hn with rfl | rfl
    all_goals
      go_enter Tryd.func34/-f-/, Tryd.ntmps34/-f-/
      go_wp2_with (go_at_call 56/-f-/; refine (right_any _ _ _ _ hfs).mono ?_; rintro e w1 ⟨rfl, hb1⟩; have hq := hb1.cell (p := ⟨w.heap.size, 0, none⟩) (by simp); have hq1 := hb1.cell (p := ⟨w.heap.size, 1, none⟩) (by simp); have hq2 := hb1.cell (p := ⟨w.heap.size, 2, none⟩) (by simp); have hs1 := hb1.size; simp at hs1; have HT1 := Lib.hid (HT.out.below (((Below.refl _ _).alloc (Nat.le_refl _) _).trans (hb1.mono (by simp))) (Nat.le_refl _)))
      go_ret
      exact ⟨rfl, ((Below.refl _ _).alloc (Nat.le_refl _) _).trans (hb1.mono (by simp))⟩
  · rw [rightB_no k n s h1 h2 h3] at hr
    cases hr
set_option maxRecDepth 100000 in
set_option maxHeartbeats 8000000 in
theorem awake2_any (w : World) (hT : PT w) : Calls Tryd.prog 17/-f-/ #[] w fun e w' => e = .returned (.bool true) ∧ Below w.heap.size w w' := by
  have HT := Lib.hid hT
  clear hT
  have KO := Lib.hid (fun (W : World) (g : Nat) (h : Blk W g 35/-t-/ #[.int .i64 1, .int .i64 1, .string ⟨#[]⟩, .int .i64 2, .int .i64 0, .string ⟨#[97]⟩]) => (show Calls Tryd.prog 30/-f-/ #[.slice (some ⟨g, 0, none⟩) 2 2] W fun e w' => e = .returned (.string ⟨#[1, 128, 0, 0, 0, 0, 0, 0, 1, 2, 97, 0, 1]⟩) ∧ Below W.heap.size W w' from
    key_ok (some ⟨g, 0, none⟩) 2 2 [⟨1, 1, ⟨#[]⟩⟩, ⟨2, 0, ⟨#[97]⟩⟩] W (.inr ⟨g, 0, rfl, h.lt, fun i hi => by
      have : i = 0 ∨ i = 1 := by simp at hi; omega
      rcases this with rfl | rfl <;> exact ⟨h.cell _, h.cell _, h.cell _⟩⟩) rfl (fun x hx => by
        simp only [List.mem_cons, List.not_mem_nil, or_false] at hx
        rcases hx with rfl | rfl <;> exact ⟨by simp, by simp, by simp [ByteArray.size]⟩) (by omega) (fun x hx => by
        simp only [List.mem_cons, List.not_mem_nil, or_false] at hx
        rcases hx with rfl | rfl <;> simp [ByteArray.size]) (by decide)))
  have P1 := Lib.hid (fun (W : World) (h : PT W) => (show Calls Tryd.prog 34/-f-/ #[.agg #[.int .i64 2, .int .i64 0, .string ⟨#[105, 116, 39, 115]⟩]] W fun e w' => e = .returned (.string ⟨#[39, 105, 116, 39, 39, 115, 39]⟩) ∧ Below W.heap.size W w' from
    printv_ok ⟨2, 0, ⟨#[105, 116, 39, 115]⟩⟩ W h ⟨by simp, by simp, by simp [ByteArray.size]⟩ (by simp [ByteArray.size]) (by decide)))
  have P2 := Lib.hid (fun (W : World) (h : PT W) => (show Calls Tryd.prog 34/-f-/ #[.agg #[.int .i64 3, .int .i64 1, .string ⟨#[]⟩]] W fun e w' => e = .returned (.string ⟨#[116, 114, 117, 101]⟩) ∧ Below W.heap.size W w' from
    printv_ok ⟨3, 1, ⟨#[]⟩⟩ W h ⟨by simp, by simp, by simp [ByteArray.size]⟩ (by simp [ByteArray.size]) (by decide)))
  go_enter Tryd.func17/-f-/, Tryd.ntmps17/-f-/
  go_wp2_with (first
    | (go_at_call 24/-f-/; (with_reducible refine (int_any 1 _).mono ?_); rintro e w1 ⟨rfl, hb1⟩)
    | (go_at_call 25/-f-/; (with_reducible refine (text_any ⟨#[97]⟩ _).mono ?_); rintro e w2 ⟨rfl, hb2⟩)
    | (go_at_call 30/-f-/; (with_reducible refine (KO.out _ _ (Blk.new w2 _ _)).mono ?_); rintro e w3 ⟨rfl, hb3⟩)
    | (go_at_call 25/-f-/; (with_reducible refine (text_any ⟨#[105, 116, 39, 115]⟩ _).mono ?_); rintro e w4 ⟨rfl, hb4⟩; have HB4 := Lib.hid (show Below w.heap.size w w4 from ((((hb1.trans (hb2.mono hb1.size)).alloc (Nat.le_trans hb1.size hb2.size) _).trans (hb3.mono (by have := hb1.size; have := hb2.size; simp; omega))).trans (hb4.mono (by have := hb1.size; have := hb2.size; have := hb3.size; simp at this; omega)))))
    | (go_at_call 34/-f-/; (with_reducible refine (P1.out _ (HT.out.below HB4.out (Nat.le_refl _))).mono ?_); rintro e w5 ⟨rfl, hb5⟩)
    | (go_at_call 26/-f-/; refine (bool_any true _).mono ?_; rintro e w6 ⟨rfl, hb6⟩; have HB6 := Lib.hid (show Below w.heap.size w w6 from (HB4.out.trans (hb5.mono HB4.out.size)).trans (hb6.mono (Nat.le_trans HB4.out.size hb5.size))))
    | (go_at_call 34/-f-/; (with_reducible refine (P2.out _ (HT.out.below HB6.out (Nat.le_refl _))).mono ?_); rintro e w7 ⟨rfl, hb7⟩))
  go_ret
  exact ⟨rfl, HB6.out.trans (hb7.mono HB6.out.size)⟩
end Go.Proofs.YtabdmhlnaahdlaaDoor

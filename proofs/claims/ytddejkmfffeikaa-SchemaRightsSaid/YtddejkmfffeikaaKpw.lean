/- Contracts of value.Key (for seats without printing). -/
import Derived.Test.YtddejkmfffeikaaKey
import Derived.Test.YtddejkmfffeikaaVrw
namespace Go.Proofs.Ytddejkmfffeikaa
open Go.ChangeShapes Go.WideShapes Go.ChangeAt Go.RowKit
theorem keysOf_take (vs : List Val) (k : Nat) (h : k < vs.length) : keysOf (vs.take (k + 1)) = keysOf (vs.take k) ++ keyOf (vs.getD k default) := by
  unfold keysOf
  rw [List.take_succ_eq_append_getElem h, List.flatMap_append]
  simp [List.getD, List.getElem?_eq_getElem h]
theorem keysOf_len (vs : List Val) (h : ∀ x ∈ vs, x.s.size ≤ 300) : (keysOf vs).length ≤ 700 * vs.length := by
  induction vs with
  | nil => simp [keysOf]
  | cons x r ih =>
    have h1 : keysOf (x :: r) = keyOf x ++ keysOf r := rfl
    have h2 := keyOf_len x (h x (by simp))
    have h3 := ih fun y hy => h y (by simp [hy])
    rw [h1, List.length_append, List.length_cons]
    omega
theorem keyOf_pos (x : Val) : 0 < (keyOf x).length := by
  unfold keyOf
  split
  · simp
  · split
    · simp
    · simp
theorem conv_nil (W : World) : (convert 101 9 (.slice none 0 0)).run Try.prog W = .ok (.string ⟨#[]⟩) W := by
  rw [run_convert_bytes_string (P := Try.prog) W 101 9 5 none 0 0 Try.underlying101/-t-/ Try.underlying5/-t-/ Try.underlying9/-t-/]
  rfl
theorem key_no (A : Option Addr) (n c : Nat) (vs : List Val) (w : World) (hA : Vals w A vs) (hn : vs.length = n) (hf : ∀ x ∈ vs, FitV x) (hs : n ≤ 1000) (hr : rall vs = false) :
    Calls Try.prog 60/-f-/ #[.slice A n c] w fun e w' => e = .returned (.string ⟨#[]⟩) ∧ Below w.heap.size w w' := by
  have RA := rightall_any A n c vs w hA hn hf (by omega)
  rw [hr] at RA
  have RA2 := Lib.hid RA
  clear RA
  go_enter Try.func60/-f-/, Try.ntmps60/-f-/
  go_wp2_with (go_at_call 59/-f-/; refine RA2.out.mono ?_; rintro e w1 ⟨rfl, hb1⟩)
  go_ret
  exact ⟨rfl, hb1⟩
set_option maxRecDepth 100000 in
set_option maxHeartbeats 8000000 in
theorem key_ok (A : Option Addr) (n c : Nat) (vs : List Val) (w : World) (hA : Vals w A vs) (hn : vs.length = n) (hf : ∀ x ∈ vs, FitV x) (hs : n ≤ 1000) (hz : ∀ x ∈ vs, x.s.size ≤ 300) (hr : rall vs = true) :
    Calls Try.prog 60/-f-/ #[.slice A n c] w fun e w' => e = .returned (.string ⟨(keysOf vs).toArray⟩) ∧ Below w.heap.size w w' := by
  subst hn
  have RA := rightall_any A vs.length c vs w hA rfl hf (by omega)
  rw [hr] at RA
  have RA2 := Lib.hid RA
  have HA := Lib.hid hA
  have HF := Lib.hid hf
  have HZ := Lib.hid hz
  have HR := Lib.hid (show ∀ x ∈ vs, rightB x.k x.n x.s = true from by
    unfold rall at hr
    exact fun x hx => List.all_eq_true.1 hr x hx)
  clear RA hA hf hz hr
  go_enter Try.func60/-f-/, Try.ntmps60/-f-/
  go_wp2_with (go_at_call 59/-f-/; refine RA2.out.mono ?_; rintro e w1 ⟨rfl, hb1⟩)
  go_loopw [3, 11] (fun v i wr => ∃ k : Nat, k ≤ vs.length ∧ i = .int .i64 k ∧ Below w.heap.size w wr ∧ Row8 wr w.heap.size v (keysOf (vs.take k)) ∧ Hid (k = 0 → v = .slice none 0 0)) (fun _ i _ => vs.length - (intOf i).toNat)
  case atStart => exact ⟨0, Nat.zero_le _, rfl, hb1, World.ownsRow_nil _ _ _ _, Lib.hid (fun _ => rfl)⟩
  case round =>
    obtain ⟨k, hk, rfl, hbl, hrow, hnil⟩ := hrel
    have hsz := hbl.size
    have HROW := Lib.hid hrow
    clear hrow
    by_cases hlt : k < vs.length
    · rcases HA.out with h | ⟨b, off, rfl, hbw, hcell⟩
      · subst h; simp at hlt
      obtain ⟨x0, x1, x2⟩ := hcell k hlt
      replace x0 := (hbl.cell (p := ⟨b, off + k * 3, none⟩) hbw).trans x0
      replace x1 := (hbl.cell (p := ⟨b, off + k * 3 + 1, none⟩) hbw).trans x1
      replace x2 := (hbl.cell (p := ⟨b, off + k * 3 + 2, none⟩) hbw).trans x2
      have hbw2 : b < wr.heap.size := Nat.lt_of_lt_of_le hbw hsz
      have HM := getD_mem vs k hlt
      have HT := Lib.hid (keysOf_take vs k hlt)
      have hl := keysOf_len (vs.take k) (fun x hx => HZ.out x (List.mem_of_mem_take hx))
      have hl2 : (vs.take k).length ≤ k := List.length_take_le _ _
      have hzx := HZ.out _ HM
      have HFX := Lib.hid (HF.out _ HM)
      have HRX := Lib.hid (HR.out _ HM)
      clear hcell HM
      generalize vs.getD k default = x at *
      have AK := Lib.hid (appendKey_any u3 (keysOf (vs.take k)) w.heap.size x (wr.alloc (.cells #[.int .i64 x.k, .int .i64 x.n, .string x.s] 55)) (World.ownsRow.alloc HROW.out _) HRX.out HFX.out (by omega) (by simp; omega) (by omega))
      clear hl hl2
      go_wp2_with (go_at_call 72/-f-/; refine AK.out.mono ?_; rintro e w2 ⟨v2, rfl, hr2, hb2⟩; have HR2 := Lib.hid hr2; clear hr2)
      go_roundw
      case rel => exact ⟨k + 1, by omega, by go_num, (hbl.alloc hsz _).trans hb2, by rw [HT.out]; exact HR2.out, Lib.hid (fun h => by omega)⟩
      case measure => simp [intOf]; omega
    · have hkl : k = vs.length := by omega
      subst hkl
      rw [List.take_length] at HROW
      by_cases he : vs.length = 0
      · obtain rfl := hnil.out he
        have hv : vs = [] := List.eq_nil_of_length_eq_zero he
        have HV := Lib.hid hv
        have cn := conv_nil wr
        clear he hv
        go_wp2
        go_ret
        exact ⟨by rw [HV.out]; rfl, hbl⟩
      · have hpos : 0 < (keysOf vs).length := by
          cases vs with
          | nil => simp at he
          | cons x r =>
            have := keyOf_pos x
            show 0 < (keyOf x ++ keysOf r).length
            rw [List.length_append]; omega
        have cv := HROW.out.conv hpos
        clear hpos he
        go_wp2
        go_ret
        exact ⟨rfl, hbl⟩
end Go.Proofs.Ytddejkmfffeikaa

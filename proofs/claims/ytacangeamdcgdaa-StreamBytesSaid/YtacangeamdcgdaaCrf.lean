/- Contracts of the document's numbers and texts as bytes. -/
import Derived.Test.YtacangeamdcgdaaSmt
namespace Go.Proofs.Ytacangeamdcgdaa
open Go.ChangeShapes Go.WideShapes Go.ChangeAt Go.RowKit
theorem conv_one (w : World) (N : Nat) (e : w.heap.size = N) (z : Int) (c : UInt8) (hz : z = (c.toNat : Int)) : (convert 105 9 (.slice (some ⟨N, 0, none⟩) 1 1)).run Try.prog (w.alloc (.cells #[.int .u8 z] 5)) = .ok (.string ⟨#[c]⟩) (w.alloc (.cells #[.int .u8 z] 5)) := by
  subst e hz
  exact run_convert_bytes_back (P := Try.prog) _ 105 9 5 ⟨w.heap.size, 0, none⟩ 1 [c] Try.underlying105 Try.underlying5 Try.underlying9 (fun j hj => by
    obtain rfl : j = 0 := by simp at hj; omega
    simp [Addr.add])
set_option maxRecDepth 100000 in
set_option maxHeartbeats 4000000 in
theorem number_any (n : Nat) (w : World) (hn : n < 18446744073709551616) :
    Calls Try.prog 50/-f-/ #[.int .u64 n] w fun e w' => e = .returned (.string ⟨(num n).toArray⟩) ∧ Below w.heap.size w w' := by
  have hlen := nb_len 8 n (by simpa using hn)
  go_enter Try.func50, Try.ntmps50
  go_wp2
  go_loopw [0, 3] (fun m sv wr => ∃ (k : Nat) (S : ByteArray), m = .int .u64 k ∧ k < 18446744073709551616 ∧ sv = .string S ∧ Hid (nb n = nb k ++ S.data.toList) ∧ Below w.heap.size w wr) (fun m _ _ => (intOf m).toNat)
  case atStart => exact ⟨n, _, rfl, hn, rfl, Lib.hid (by simp), Below.refl _ _⟩
  case round =>
    obtain ⟨k, S, rfl, hk, rfl, heq, hbl⟩ := hrel
    have hsz := hbl.size
    have hS8 : S.size ≤ 8 := by
      have := congrArg List.length heq.out
      rw [List.length_append] at this
      have h2 : S.data.toList.length = S.size := by simp
      omega
    by_cases h0 : 0 < k
    · have HP := Lib.hid (nb_pos k h0)
      have CV := conv_one wr wr.heap.size rfl ((k : Int) % 256) (UInt8.ofNat (k % 256)) (by rw [UInt8.toNat_ofNat']; omega)
      have hmod : (k : Int) % 256 < 256 := by omega
      have hcc : ¬ (9223372036854775807 < (⟨#[UInt8.ofNat (k % 256)]⟩ : ByteArray).size + S.size) := by
        have : (⟨#[UInt8.ofNat (k % 256)]⟩ : ByteArray).size = 1 := rfl
        omega
      go_wp2
      go_roundw
      case rel => exact ⟨k / 256, _, by go_num, by omega, rfl, Lib.hid (by rw [heq.out, HP.out, ByteArray.data_append, Array.toList_append]; simp), hbl.alloc hsz _⟩
      case measure => simp [intOf]; omega
    · have hk0 : k = 0 := by omega
      subst hk0
      have HE := Lib.hid (show num n = UInt8.ofNat S.size :: S.data.toList from by
        have h1 := heq.out
        rw [nb_zero, List.nil_append] at h1
        unfold num
        rw [h1]
        simp)
      have CV := conv_one wr wr.heap.size rfl (S.size : Int) (UInt8.ofNat S.size) (by rw [UInt8.toNat_ofNat']; omega)
      have hcc : ¬ (9223372036854775807 < (⟨#[UInt8.ofNat S.size]⟩ : ByteArray).size + S.size) := by
        have : (⟨#[UInt8.ofNat S.size]⟩ : ByteArray).size = 1 := rfl
        omega
      go_wp2
      go_ret
      refine ⟨congrArg (fun q => Ending.returned (.string q)) ?_, hbl.alloc hsz _⟩
      apply ByteArray.ext
      rw [HE.out, ByteArray.data_append]
      apply Array.toList_inj.1
      rw [Array.toList_append]
      simp
theorem str_app (a b : List UInt8) : (⟨a.toArray⟩ : ByteArray) ++ ⟨b.toArray⟩ = ⟨(a ++ b).toArray⟩ := ByteArray.mk_append_mk a b
theorem str_size (a : List UInt8) : (⟨a.toArray⟩ : ByteArray).size = a.length := by simp [ByteArray.size]
theorem number_z (z : Int) (w : World) (h0 : 0 ≤ z) (h1 : z < 18446744073709551616) :
    Calls Try.prog 50/-f-/ #[.int .u64 z] w fun e w' => e = .returned (.string ⟨(num z.toNat).toArray⟩) ∧ Below w.heap.size w w' := by
  have := number_any z.toNat w (by omega)
  rw [Int.toNat_of_nonneg h0] at this
  exact this
set_option maxHeartbeats 2000000 in
theorem refsize_any (n : Int) (w : World) (h1 : -9223372036854775808 ≤ n) (h2 : n ≤ 9223372036854775807) :
    Calls Try.prog 27/-f-/ #[.int .i64 n] w fun e w' => e = .returned (.string ⟨(num n.toNat).toArray⟩) ∧ Below w.heap.size w w' := by
  by_cases hn : n < 0
  · have h0 : n.toNat = 0 := by omega
    rw [h0]
    clear h0
    have C := Lib.hid (number_any 0 w (by decide))
    go_enter Try.func27, Try.ntmps27
    go_wp2_with (go_at_call 50/-f-/; refine C.out.mono ?_; rintro e w1 ⟨rfl, hb1⟩)
    go_ret
    exact ⟨rfl, hb1⟩
  · have hw : IntKind.u64.wrap n = n := by rw [IntKind.wrap_u64]; omega
    have C := Lib.hid (number_z n w (by omega) (by omega))
    go_enter Try.func27, Try.ntmps27
    go_wp2_with (go_at_call 50/-f-/; refine C.out.mono ?_; rintro e w1 ⟨rfl, hb1⟩)
    go_ret
    exact ⟨rfl, hb1⟩
set_option maxHeartbeats 2000000 in
theorem refsigned_any (n : Int) (w : World) (h1 : -9223372036854775808 ≤ n) (h2 : n ≤ 9223372036854775807) :
    Calls Try.prog 89/-f-/ #[.int .i64 n] w fun e w' => e = .returned (.string ⟨(num (zig n)).toArray⟩) ∧ Below w.heap.size w w' := by
  have C := Lib.hid (number_any (zig n) w (by have := zig_lt n h1 h2; omega))
  by_cases hn : n < 0
  · have HZ := Lib.hid (show ((zig n : Nat) : Int) = 2 * -(n + 1) + 1 from by unfold zig; rw [if_pos hn]; omega)
    rw [HZ.out] at C
    go_enter Try.func89, Try.ntmps89
    go_wp2_with (go_at_call 50/-f-/; refine C.out.mono ?_; rintro e w1 ⟨rfl, hb1⟩)
    go_ret
    exact ⟨rfl, hb1⟩
  · have HZ := Lib.hid (show ((zig n : Nat) : Int) = 2 * n from by unfold zig; rw [if_neg hn]; omega)
    rw [HZ.out] at C
    have hw : IntKind.u64.wrap n = n := by rw [IntKind.wrap_u64]; omega
    go_enter Try.func89, Try.ntmps89
    go_wp2_with (go_at_call 50/-f-/; refine C.out.mono ?_; rintro e w1 ⟨rfl, hb1⟩)
    go_ret
    exact ⟨rfl, hb1⟩
set_option maxHeartbeats 2000000 in
theorem reftext_any (s : ByteArray) (w : World) (hs : s.size ≤ 1000000) :
    Calls Try.prog 90/-f-/ #[.string s] w fun e w' => e = .returned (.string ⟨(textW s).toArray⟩) ∧ Below w.heap.size w w' := by
  have C := Lib.hid (refsize_any (s.size : Int) w (by omega) (by omega))
  have h9 := num_len9 s.size (by omega)
  rw [Int.toNat_natCast] at C
  obtain ⟨S, hS⟩ : ∃ S : ByteArray, S = ⟨(num s.size).toArray⟩ := ⟨_, rfl⟩
  rw [← hS] at C
  have hSs : S.size ≤ 9 := by rw [hS, str_size]; exact h9
  have HS := Lib.hid hS
  have hcc : ¬ (9223372036854775807 < S.size + s.size) := by omega
  clear hS h9
  go_enter Try.func90, Try.ntmps90
  go_wp2_with (go_at_call 27/-f-/; refine C.out.mono ?_; rintro e w1 ⟨rfl, hb1⟩)
  go_ret
  refine ⟨congrArg (fun q => Ending.returned (.string q)) ?_, hb1⟩
  rw [HS.out]
  apply ByteArray.ext
  simp [textW]
end Go.Proofs.Ytacangeamdcgdaa

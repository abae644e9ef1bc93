/- The document's answers for package seal: sums, bit by bit. -/
import Derived.Test.YtmmgicomidpmhaaDoorOpn
namespace Go.Proofs.YtmmgicomidpmhaaDoor
open Go.ChangeShapes Go.WideShapes Go.ChangeAt Go.RowKit
namespace Crc
/-- The register within a byte, behind b of its bits. -/
def part (r c b : Nat) : Nat := stn b (r ^^^ c) ^^^ (c >>> b)
theorem part_zero (r c : Nat) : part r c 0 = r := by unfold part stn; rw [Nat.shiftRight_zero, Nat.xor_assoc, Nat.xor_self, Nat.xor_zero]
theorem stn_succ (n : Nat) : ∀ a, stn (n + 1) a = st (stn n a) := fun a => by rw [stn_add]; rfl
theorem low_bit (x : Nat) : x ^^^ (x % 2) = (x >>> 1) <<< 1 := by
  apply Nat.eq_of_testBit_eq
  intro i
  rw [Nat.testBit_xor, Nat.testBit_shiftLeft, Nat.testBit_shiftRight, show (2 : Nat) = 2 ^ 1 from rfl, Nat.testBit_mod_two_pow]
  cases i with
  | zero => simp
  | succ i => simp [Nat.add_comm 1 i]
theorem part_succ (r c b : Nat) : part r c (b + 1) = st (part r c b ^^^ ((c >>> b) % 2)) := by
  unfold part
  rw [Nat.xor_assoc, low_bit, st_xor, st_two, stn_succ, ← Nat.shiftRight_add]
theorem part_eight (r : Nat) (c : UInt8) : part r c.toNat 8 = byte r c.toNat := by
  unfold part byte
  have : c.toNat >>> 8 = 0 := by rw [Nat.shiftRight_eq_div_pow]; exact Nat.div_eq_of_lt c.toNat_lt
  rw [this, Nat.xor_zero]
theorem part_lt {r c b : Nat} (hr : r < 2 ^ 64) (hc : c < 256) : part r c b < 2 ^ 64 :=
  Nat.xor_lt_two_pow (stn_lt b (Nat.xor_lt_two_pow hr (by omega))) (by rw [Nat.shiftRight_eq_div_pow]; exact Nat.lt_of_le_of_lt (Nat.div_le_self _ _) (by omega))
end Crc
set_option maxHeartbeats 4000000 in
theorem refsum_any (s : ByteArray) (w : World) (hs : s.size ≤ 1000000) :
    Calls Tryd.prog 13 #[.string s] w fun e w' => e = .returned (.int .u64 (Crc.sum s.data.toList : Nat)) ∧ w = w' := by
  have hsl : s.data.toList.length = s.size := by simp
  have HSL := Lib.hid hsl
  clear hsl
  go_enter Tryd.func13, Tryd.ntmps13
  go_wp2
  go_loop [3, 4] (fun r i => ∃ k : Nat, k ≤ s.size ∧ i = .int .i64 k ∧ r = .int .u64 (Crc.crc 18446744073709551615 (s.data.toList.take k) : Nat)) (fun _ i => s.size - (intOf i).toNat)
  case atStart => exact ⟨0, Nat.zero_le _, rfl, rfl⟩
  case round =>
    obtain ⟨k, hk, rfl, rfl⟩ := hrel
    have hr1 := Crc.crc_lt (s.data.toList.take k) (r := 18446744073709551615) (by decide)
    by_cases hlt : k < s.size
    · have hts : s.data.toList.take (k + 1) = s.data.toList.take k ++ [s[k]] := by
        rw [List.take_succ_eq_append_getElem (by simpa using hlt)]; rfl
      have HST := Lib.hid (show Crc.crc 18446744073709551615 (s.data.toList.take (k + 1)) = Crc.part (Crc.crc 18446744073709551615 (s.data.toList.take k)) s[k].toNat 8 from by rw [hts, Crc.crc_snoc, Crc.part_eight])
      have hc8 : s[k].toNat < 256 := s[k].toNat_lt
      clear hts
      generalize Crc.crc 18446744073709551615 (s.data.toList.take k) = r at *
      go_wp2
      go_loop [3, 5] (fun z j => ∃ b : Nat, b ≤ 8 ∧ j = .int .i64 b ∧ z = .int .u64 (Crc.part r s[k].toNat b : Nat)) (fun _ j => 8 - (intOf j).toNat)
      case atStart => exact ⟨0, Nat.zero_le _, rfl, by rw [Crc.part_zero]⟩
      case round =>
        obtain ⟨b, hb, rfl, rfl⟩ := hrel
        have hz := Crc.part_lt (b := b) hr1 hc8
        by_cases hb8 : b < 8
        · have HP := Lib.hid (Crc.part_succ r s[k].toNat b)
          generalize Crc.part r s[k].toNat b = z at *
          obtain ⟨q, hq⟩ : ∃ q, q = (s[k].toNat >>> b) % 2 := ⟨_, rfl⟩
          have hq2 : q < 2 := by omega
          have hx : IntKind.u64.wrap (((s[k].toNat : Int) / 2 ^ b).tmod 2) = (q : Int) := by
            have e1 : ((s[k].toNat : Int) / 2 ^ b) = ((s[k].toNat / 2 ^ b : Nat) : Int) := by norm_cast
            rw [Nat.shiftRight_eq_div_pow] at hq
            rw [e1, hq, IntKind.wrap_u64]
            generalize s[k].toNat / 2 ^ b = m
            rw [Int.tmod_eq_emod_of_nonneg (by omega)]
            omega
          rw [← hq] at HP
          have HP2 := Lib.hid (show Crc.part r s[k].toNat (b + 1) = if z % 2 = q then z / 2 else (z / 2) ^^^ Crc.P from by rw [HP.out, Crc.bit_step z q hq2])
          clear hq
          by_cases hzq : z % 2 = q
          · have hne : ((z : Int) % 2 != (q : Int)) = false := by rw [bne_eq_false_iff_eq]; omega
            have HP3 := Lib.hid (show Crc.part r s[k].toNat (b + 1) = z / 2 from by rw [HP2.out, if_pos hzq])
            clear hzq
            go_wp2
            go_round
            case rel => exact ⟨b + 1, by omega, by go_num, by rw [HP3.out]; rfl⟩
            case measure => simp [intOf]; omega
          · have hne : ((z : Int) % 2 != (q : Int)) = true := bne_iff_ne.2 (by omega)
            have HP3 := Lib.hid (show Crc.part r s[k].toNat (b + 1) = (z / 2) ^^^ Crc.P from by rw [HP2.out, if_neg hzq])
            have hxp : bits .xor .u64 ((z : Int) / 2) 14514072000185962306 = ((z / 2 ^^^ Crc.P : Nat) : Int) := bits_xor_u64_nat (z / 2) 14514072000185962306 (by omega) (by decide)
            clear hzq
            go_wp2
            go_round
            case rel => exact ⟨b + 1, by omega, by go_num, by rw [HP3.out]⟩
            case measure => simp [intOf]; omega
        · have hb9 : b = 8 := by omega
          subst hb9
          go_wp2
          go_round
          case rel => exact ⟨k + 1, by omega, by go_num, by rw [HST.out]⟩
          case measure => simp [intOf]; omega
    · have hkl : k = s.size := by omega
      subst hkl
      have hfull : s.data.toList.take s.size = s.data.toList := List.take_of_length_le (by rw [HSL.out]; exact Nat.le_refl _)
      rw [hfull] at hr1 ⊢
      have HI := Lib.hid (Crc.inv_sub (r := Crc.crc 18446744073709551615 s.data.toList) hr1)
      have HS := Lib.hid (show Crc.sum s.data.toList = Crc.inv (Crc.crc 18446744073709551615 s.data.toList) from rfl)
      clear hfull
      generalize Crc.crc 18446744073709551615 s.data.toList = y at *
      go_wp2
      go_ret
      exact ⟨ret_int (by rw [HS.out, HI.out]; omega), rfl⟩
end Go.Proofs.YtmmgicomidpmhaaDoor

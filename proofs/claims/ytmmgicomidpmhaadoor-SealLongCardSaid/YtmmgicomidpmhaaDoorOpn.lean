/- Contracts of package seal: Open. -/
import Derived.Test.YtmmgicomidpmhaaDoorFra
import Derived.IntWalk
import Derived.Laws.DeepStrings4
import Derived.Lib.Strings
namespace Go.Proofs.YtmmgicomidpmhaaDoor
open Go.ChangeShapes Go.WideShapes Go.ChangeAt Go.RowKit
theorem ret_sii {s t : ByteArray} {a b c d : Int} (h : s = t) (h1 : a = b) (h2 : c = d) : Ending.returned (.tuple #[.string s, .int .i64 a, .int .i64 c]) = .returned (.tuple #[.string t, .int .i64 b, .int .i64 d]) := by rw [h, h1, h2]
/-- Bytes as a number, the highest first. -/
def bev (l : List UInt8) : Nat := l.foldl (fun a c => 256 * a + c.toNat) 0
theorem bev_snoc (l : List UInt8) (c : UInt8) : bev (l ++ [c]) = 256 * bev l + c.toNat := by simp [bev]
theorem bev_aux (l : List UInt8) : ∀ a, l.foldl (fun a c => 256 * a + c.toNat) a < 256 ^ l.length * (a + 1) := by
  induction l with
  | nil => intro a; simp
  | cons c l ih =>
    intro a
    have h := ih (256 * a + c.toNat)
    have hc : c.toNat < 256 := c.toNat_lt
    simp only [List.foldl_cons, List.length_cons]
    have h2 : 256 ^ l.length * (256 * a + c.toNat + 1) ≤ 256 ^ l.length * (256 * (a + 1)) := Nat.mul_le_mul_left _ (by omega)
    rw [Nat.pow_succ, Nat.mul_assoc]
    omega
theorem bev_lt (l : List UInt8) : bev l < 256 ^ l.length := by have := bev_aux l 0; simpa [bev] using this
/-- What is framed at the beginning, and why nothing is. -/
def opened (l : List UInt8) : List UInt8 × Nat × Nat :=
  if l.length < 4 then ([], 0, 1)
  else if 65536 < bev (l.take 4) then ([], 0, 2)
  else if l.length < bev (l.take 4) + 12 then ([], 0, 1)
  else if Crc.le ((l.drop (4 + bev (l.take 4))).take 8) = Crc.sum (l.take (4 + bev (l.take 4))) then ((l.drop 4).take (bev (l.take 4)), bev (l.take 4) + 12, 0)
  else ([], 0, 2)
theorem or_i64 (a c : Nat) (ha : a < 16777216) (hc : c < 256) : bits .or .i64 (((a * 256 : Nat)) : Int) (c : Int) = ((256 * a + c : Nat) : Int) := by
  have ho : a * 256 ||| c = 256 * a + c := by
    have h := Nat.shiftLeft_add_eq_or_of_lt (i := 8) (b := c) hc a
    rw [Nat.shiftLeft_eq, show (2 : Nat) ^ 8 = 256 from rfl] at h
    omega
  show IntKind.i64.wrap ((BitVec.ofInt 64 (((a * 256 : Nat)) : Int) ||| BitVec.ofInt 64 (c : Int)).toNat : Int) = _
  rw [BitVec.toNat_or, ofInt_u64 (a * 256) (by omega), ofInt_u64 c (by omega), ho]
  exact IntWalk.i64_in _ (by omega)
theorem le_snoc (c : UInt8) : ∀ l : List UInt8, Crc.le (l ++ [c]) = Crc.le l + c.toNat * 256 ^ l.length
  | [] => by rw [List.nil_append, Crc.le_add]; simp [Crc.le]
  | d :: l => by
    rw [List.cons_append, Crc.le_add, Crc.le_add, le_snoc c l, List.length_cons, Nat.pow_succ]
    have h : c.toNat * (256 ^ l.length * 256) = 256 * (c.toNat * 256 ^ l.length) := by rw [← Nat.mul_assoc, Nat.mul_comm]
    rw [h]
    generalize c.toNat * 256 ^ l.length = q
    omega
theorem or_u64 (k a c : Nat) (hk : k ≤ 7) (ha : a < 256 ^ k) (hc : c < 256) : bits .or .u64 (a : Int) ((c * 256 ^ k : Nat) : Int) = ((a + c * 256 ^ k : Nat) : Int) := by
  have e : (256 : Nat) ^ k = 2 ^ (8 * k) := by rw [Nat.pow_mul]
  have h3 : (256 : Nat) ^ k ≤ 256 ^ 7 := Nat.pow_le_pow_right (by decide) hk
  have h4 : c * 256 ^ k ≤ 255 * 256 ^ 7 := Nat.mul_le_mul (by omega) h3
  have h := Nat.shiftLeft_add_eq_or_of_lt (i := 8 * k) (b := a) (by rw [← e]; exact ha) c
  rw [Nat.shiftLeft_eq, ← e] at h
  rw [u64_or_nat a (c * 256 ^ k) (by omega) (by omega), Nat.or_comm, ← h, Nat.add_comm]
theorem le_take_step (l : List UInt8) (e k : Nat) (h : e + k < l.length) : Crc.le ((l.drop e).take (k + 1)) = Crc.le ((l.drop e).take k) + l[e + k].toNat * 256 ^ k := by
  have h1 : (l.drop e).take (k + 1) = (l.drop e).take k ++ [l[e + k]] := by
    rw [List.take_succ_eq_append_getElem (by rw [List.length_drop]; omega), List.getElem_drop]
  rw [h1, le_snoc, List.length_take, List.length_drop, Nat.min_eq_left (by omega)]
theorem le_take_lt (l : List UInt8) (e k : Nat) (h : e + k ≤ l.length) : Crc.le ((l.drop e).take k) < 256 ^ k := by
  have := Crc.le_lt ((l.drop e).take k)
  rw [List.length_take, List.length_drop, Nat.min_eq_left (by omega), Nat.pow_mul] at this
  exact this
theorem of_one (t : ByteArray) (w : World) (hT : QT w) (ht : t.size ≤ 1000000) :
    Calls Tryd.prog 12 #[.slice (some ⟨w.heap.size, 0, none⟩) 1 1] (w.alloc (.cells #[.string t] 9)) fun e w' => e = .returned (.int .u64 (Crc.sum t.data.toList : Nat)) ∧ Below w.heap.size w w' := by
  have hbb : Below w.heap.size w (w.alloc (.cells #[.string t] 9)) := (Below.refl _ _).alloc (Nat.le_refl _) _
  have hsg : Strs (w.alloc (.cells #[.string t] 9)) (some ⟨w.heap.size, 0, none⟩) [t] :=
    .inr ⟨w.heap.size, 0, rfl, by simp, fun i hi => by
      obtain rfl : i = 0 := by simp at hi; omega
      exact (Blk.new w 9 #[.string t]).cell 0⟩
  have OF := of_any (some ⟨w.heap.size, 0, none⟩) 1 1 [t] _ hsg (hT.below hbb hT.lt) rfl (by omega) (fun s hs => by simp at hs; subst hs; exact ht)
  rw [show cat [t] = t.data.toList from by simp [cat]] at OF
  exact OF.mono fun e w' ⟨he, hb⟩ => ⟨he, hbb.trans (hb.mono (by simp))⟩
set_option maxHeartbeats 4000000 in
theorem open_any (s : ByteArray) (w : World) (hT : QT w) (hs : s.size ≤ 1000000) :
    Calls Tryd.prog 16 #[.string s] w fun e w' => e = .returned (.tuple #[.string ⟨(opened s.data.toList).1.toArray⟩, .int .i64 (opened s.data.toList).2.1, .int .i64 (opened s.data.toList).2.2]) ∧ Below w.heap.size w w' := by
  have hsl : s.data.toList.length = s.size := by simp
  have HSL := Lib.hid hsl
  have HT := Lib.hid hT
  clear hT
  by_cases h4 : s.size < 4
  · have HO := Lib.hid (show opened s.data.toList = ([], 0, 1) from by unfold opened; rw [if_pos (by omega)])
    clear hsl
    rw [HO.out]
    go_enter Tryd.func16, Tryd.ntmps16
    go_wp2
    go_ret3
    exact ⟨rfl, Below.refl _ _⟩
  clear hsl
  go_enter Tryd.func16, Tryd.ntmps16
  go_wp2
  go_loop [5, 13] (fun r i => ∃ k : Nat, k ≤ 4 ∧ i = .int .i64 k ∧ r = .int .i64 (bev (s.data.toList.take k) : Nat)) (fun _ i => 4 - (intOf i).toNat)
  case atStart => exact ⟨0, Nat.zero_le _, rfl, rfl⟩
  case round =>
    obtain ⟨k, hk, rfl, rfl⟩ := hrel
    by_cases hlt : k < 4
    · have hks : k < s.size := by omega
      have hts : s.data.toList.take (k + 1) = s.data.toList.take k ++ [s[k]] := by
        rw [List.take_succ_eq_append_getElem (by simpa using hks)]; rfl
      have HST := Lib.hid (show bev (s.data.toList.take (k + 1)) = 256 * bev (s.data.toList.take k) + s[k].toNat from by rw [hts, bev_snoc])
      have hbv := bev_lt (s.data.toList.take k)
      rw [List.length_take, HSL.out, Nat.min_eq_left (by omega)] at hbv
      have hb2 : bev (s.data.toList.take k) < 16777216 := Nat.lt_of_lt_of_le hbv (Nat.pow_le_pow_right (n := 256) (by decide) (show k ≤ 3 by omega))
      have hc8 : s[k].toNat < 256 := s[k].toNat_lt
      clear hts hbv
      generalize bev (s.data.toList.take k) = r at *
      have ho : bits .or .i64 ((r : Int) * 256) (s[k].toNat : Int) = ((256 * r + s[k].toNat : Nat) : Int) := or_i64 r s[k].toNat hb2 hc8
      go_wp2
      go_round
      case rel => exact ⟨k + 1, by omega, by go_num, by rw [HST.out]; go_num⟩
      case measure => simp [intOf]; omega
    · have hk4 : k = 4 := by omega
      subst hk4
      rw [show ((4 : Nat) : Int) = 4 from rfl]
      have hbv := bev_lt (s.data.toList.take 4)
      rw [List.length_take, HSL.out, Nat.min_eq_left (by omega)] at hbv
      have HOP := Lib.hid (show opened s.data.toList = if 65536 < bev (s.data.toList.take 4) then ([], 0, 2) else if s.size < bev (s.data.toList.take 4) + 12 then ([], 0, 1) else if Crc.le ((s.data.toList.drop (4 + bev (s.data.toList.take 4))).take 8) = Crc.sum (s.data.toList.take (4 + bev (s.data.toList.take 4))) then ((s.data.toList.drop 4).take (bev (s.data.toList.take 4)), bev (s.data.toList.take 4) + 12, 0) else ([], 0, 2) from by
        unfold opened; rw [if_neg (by rw [HSL.out]; exact h4), HSL.out])
      generalize bev (s.data.toList.take 4) = z at *
      by_cases hz : 65536 < z
      · have HO := Lib.hid (show opened s.data.toList = ([], 0, 2) from by rw [HOP.out, if_pos hz])
        go_wp2
        go_ret3
        exact ⟨by rw [HO.out]; rfl, Below.refl _ _⟩
      by_cases hz2 : s.size < z + 12
      · have HO := Lib.hid (show opened s.data.toList = ([], 0, 1) from by rw [HOP.out, if_neg hz, if_pos hz2])
        go_wp2
        go_ret3
        exact ⟨by rw [HO.out]; rfl, Below.refl _ _⟩
      have HOQ := Lib.hid (show opened s.data.toList = if Crc.le ((s.data.toList.drop (4 + z)).take 8) = Crc.sum (s.data.toList.take (4 + z)) then ((s.data.toList.drop 4).take z, z + 12, 0) else ([], 0, 2) from by rw [HOP.out, if_neg hz, if_neg hz2])
      clear HOP hbv
      go_wp2
      go_loop [8, 33] (fun r i => ∃ k : Nat, k ≤ 8 ∧ i = .int .i64 k ∧ r = .int .u64 (Crc.le ((s.data.toList.drop (4 + z)).take k) : Nat)) (fun _ i => 8 - (intOf i).toNat)
      case atStart => exact ⟨0, Nat.zero_le _, rfl, rfl⟩
      case round =>
        obtain ⟨k, hk, rfl, rfl⟩ := hrel
        have hk8 : k = 0 ∨ k = 1 ∨ k = 2 ∨ k = 3 ∨ k = 4 ∨ k = 5 ∨ k = 6 ∨ k = 7 ∨ k = 8 := by omega
        rcases hk8 with rfl | rfl | rfl | rfl | rfl | rfl | rfl | rfl | rfl
        · have hi : 4 + z < s.size := by omega
          have HST := Lib.hid (le_take_step s.data.toList (4 + z) 0 (by rw [HSL.out]; omega))
          have hlt := le_take_lt s.data.toList (4 + z) 0 (by rw [HSL.out]; omega)
          have hc8 : (s[4 + z]).toNat < 256 := (s[4 + z]).toNat_lt
          have HSI := Lib.hid (show (s.data.toList[4 + z + 0]'(by rw [HSL.out]; omega)).toNat = (s[4 + z]).toNat from rfl)
          generalize Crc.le ((s.data.toList.drop (4 + z)).take 0) = r at *
          have ho0 := or_u64 0 r (s[4 + z]).toNat (by omega) hlt hc8
          have ho : bits .or .u64 (r : Int) ((s[4 + z]).toNat : Int) = ((r + (s[4 + z]).toNat * 256 ^ 0 : Nat) : Int) := by first | exact ho0 | (rw [Nat.pow_zero, Nat.mul_one] at ho0 ⊢; exact ho0)
          rw [show ((0 : Nat) : Int) = 0 from rfl]
          clear ho0 hlt
          go_wp2
          go_round
          case rel => exact ⟨1, by omega, by go_num, by rw [HST.out, HSI.out]; congr 1; try omega⟩
          case measure => simp [intOf]
        · have hi : 4 + z + 1 < s.size := by omega
          have HST := Lib.hid (le_take_step s.data.toList (4 + z) 1 (by rw [HSL.out]; omega))
          have hlt := le_take_lt s.data.toList (4 + z) 1 (by rw [HSL.out]; omega)
          have hc8 : (s[4 + z + 1]).toNat < 256 := (s[4 + z + 1]).toNat_lt
          have HSI := Lib.hid (show (s.data.toList[4 + z + 1]'(by rw [HSL.out]; omega)).toNat = (s[4 + z + 1]).toNat from rfl)
          generalize Crc.le ((s.data.toList.drop (4 + z)).take 1) = r at *
          have ho0 := or_u64 1 r (s[4 + z + 1]).toNat (by omega) hlt hc8
          have ho : bits .or .u64 (r : Int) ((s[4 + z + 1]).toNat * 256 : Int) = ((r + (s[4 + z + 1]).toNat * 256 ^ 1 : Nat) : Int) := by first | exact ho0 | (rw [Nat.pow_zero, Nat.mul_one] at ho0 ⊢; exact ho0)
          rw [show ((1 : Nat) : Int) = 1 from rfl]
          clear ho0 hlt
          go_wp2
          go_round
          case rel => exact ⟨2, by omega, by go_num, by rw [HST.out, HSI.out]; congr 1; try omega⟩
          case measure => simp [intOf]
        · have hi : 4 + z + 2 < s.size := by omega
          have HST := Lib.hid (le_take_step s.data.toList (4 + z) 2 (by rw [HSL.out]; omega))
          have hlt := le_take_lt s.data.toList (4 + z) 2 (by rw [HSL.out]; omega)
          have hc8 : (s[4 + z + 2]).toNat < 256 := (s[4 + z + 2]).toNat_lt
          have HSI := Lib.hid (show (s.data.toList[4 + z + 2]'(by rw [HSL.out]; omega)).toNat = (s[4 + z + 2]).toNat from rfl)
          generalize Crc.le ((s.data.toList.drop (4 + z)).take 2) = r at *
          have ho0 := or_u64 2 r (s[4 + z + 2]).toNat (by omega) hlt hc8
          have ho : bits .or .u64 (r : Int) ((s[4 + z + 2]).toNat * 65536 : Int) = ((r + (s[4 + z + 2]).toNat * 256 ^ 2 : Nat) : Int) := by first | exact ho0 | (rw [Nat.pow_zero, Nat.mul_one] at ho0 ⊢; exact ho0)
          rw [show ((2 : Nat) : Int) = 2 from rfl]
          clear ho0 hlt
          go_wp2
          go_round
          case rel => exact ⟨3, by omega, by go_num, by rw [HST.out, HSI.out]; congr 1; try omega⟩
          case measure => simp [intOf]
        · have hi : 4 + z + 3 < s.size := by omega
          have HST := Lib.hid (le_take_step s.data.toList (4 + z) 3 (by rw [HSL.out]; omega))
          have hlt := le_take_lt s.data.toList (4 + z) 3 (by rw [HSL.out]; omega)
          have hc8 : (s[4 + z + 3]).toNat < 256 := (s[4 + z + 3]).toNat_lt
          have HSI := Lib.hid (show (s.data.toList[4 + z + 3]'(by rw [HSL.out]; omega)).toNat = (s[4 + z + 3]).toNat from rfl)
          generalize Crc.le ((s.data.toList.drop (4 + z)).take 3) = r at *
          have ho0 := or_u64 3 r (s[4 + z + 3]).toNat (by omega) hlt hc8
          have ho : bits .or .u64 (r : Int) ((s[4 + z + 3]).toNat * 16777216 : Int) = ((r + (s[4 + z + 3]).toNat * 256 ^ 3 : Nat) : Int) := by first | exact ho0 | (rw [Nat.pow_zero, Nat.mul_one] at ho0 ⊢; exact ho0)
          rw [show ((3 : Nat) : Int) = 3 from rfl]
          clear ho0 hlt
          go_wp2
          go_round
          case rel => exact ⟨4, by omega, by go_num, by rw [HST.out, HSI.out]; congr 1; try omega⟩
          case measure => simp [intOf]
        · have hi : 4 + z + 4 < s.size := by omega
          have HST := Lib.hid (le_take_step s.data.toList (4 + z) 4 (by rw [HSL.out]; omega))
          have hlt := le_take_lt s.data.toList (4 + z) 4 (by rw [HSL.out]; omega)
          have hc8 : (s[4 + z + 4]).toNat < 256 := (s[4 + z + 4]).toNat_lt
          have HSI := Lib.hid (show (s.data.toList[4 + z + 4]'(by rw [HSL.out]; omega)).toNat = (s[4 + z + 4]).toNat from rfl)
          generalize Crc.le ((s.data.toList.drop (4 + z)).take 4) = r at *
          have ho0 := or_u64 4 r (s[4 + z + 4]).toNat (by omega) hlt hc8
          have ho : bits .or .u64 (r : Int) ((s[4 + z + 4]).toNat * 4294967296 : Int) = ((r + (s[4 + z + 4]).toNat * 256 ^ 4 : Nat) : Int) := by first | exact ho0 | (rw [Nat.pow_zero, Nat.mul_one] at ho0 ⊢; exact ho0)
          rw [show ((4 : Nat) : Int) = 4 from rfl]
          clear ho0 hlt
          go_wp2
          go_round
          case rel => exact ⟨5, by omega, by go_num, by rw [HST.out, HSI.out]; congr 1; try omega⟩
          case measure => simp [intOf]
        · have hi : 4 + z + 5 < s.size := by omega
          have HST := Lib.hid (le_take_step s.data.toList (4 + z) 5 (by rw [HSL.out]; omega))
          have hlt := le_take_lt s.data.toList (4 + z) 5 (by rw [HSL.out]; omega)
          have hc8 : (s[4 + z + 5]).toNat < 256 := (s[4 + z + 5]).toNat_lt
          have HSI := Lib.hid (show (s.data.toList[4 + z + 5]'(by rw [HSL.out]; omega)).toNat = (s[4 + z + 5]).toNat from rfl)
          generalize Crc.le ((s.data.toList.drop (4 + z)).take 5) = r at *
          have ho0 := or_u64 5 r (s[4 + z + 5]).toNat (by omega) hlt hc8
          have ho : bits .or .u64 (r : Int) ((s[4 + z + 5]).toNat * 1099511627776 : Int) = ((r + (s[4 + z + 5]).toNat * 256 ^ 5 : Nat) : Int) := by first | exact ho0 | (rw [Nat.pow_zero, Nat.mul_one] at ho0 ⊢; exact ho0)
          rw [show ((5 : Nat) : Int) = 5 from rfl]
          clear ho0 hlt
          go_wp2
          go_round
          case rel => exact ⟨6, by omega, by go_num, by rw [HST.out, HSI.out]; congr 1; try omega⟩
          case measure => simp [intOf]
        · have hi : 4 + z + 6 < s.size := by omega
          have HST := Lib.hid (le_take_step s.data.toList (4 + z) 6 (by rw [HSL.out]; omega))
          have hlt := le_take_lt s.data.toList (4 + z) 6 (by rw [HSL.out]; omega)
          have hc8 : (s[4 + z + 6]).toNat < 256 := (s[4 + z + 6]).toNat_lt
          have HSI := Lib.hid (show (s.data.toList[4 + z + 6]'(by rw [HSL.out]; omega)).toNat = (s[4 + z + 6]).toNat from rfl)
          generalize Crc.le ((s.data.toList.drop (4 + z)).take 6) = r at *
          have ho0 := or_u64 6 r (s[4 + z + 6]).toNat (by omega) hlt hc8
          have ho : bits .or .u64 (r : Int) ((s[4 + z + 6]).toNat * 281474976710656 : Int) = ((r + (s[4 + z + 6]).toNat * 256 ^ 6 : Nat) : Int) := by first | exact ho0 | (rw [Nat.pow_zero, Nat.mul_one] at ho0 ⊢; exact ho0)
          rw [show ((6 : Nat) : Int) = 6 from rfl]
          clear ho0 hlt
          go_wp2
          go_round
          case rel => exact ⟨7, by omega, by go_num, by rw [HST.out, HSI.out]; congr 1; try omega⟩
          case measure => simp [intOf]
        · have hi : 4 + z + 7 < s.size := by omega
          have HST := Lib.hid (le_take_step s.data.toList (4 + z) 7 (by rw [HSL.out]; omega))
          have hlt := le_take_lt s.data.toList (4 + z) 7 (by rw [HSL.out]; omega)
          have hc8 : (s[4 + z + 7]).toNat < 256 := (s[4 + z + 7]).toNat_lt
          have HSI := Lib.hid (show (s.data.toList[4 + z + 7]'(by rw [HSL.out]; omega)).toNat = (s[4 + z + 7]).toNat from rfl)
          generalize Crc.le ((s.data.toList.drop (4 + z)).take 7) = r at *
          have ho0 := or_u64 7 r (s[4 + z + 7]).toNat (by omega) hlt hc8
          have ho : bits .or .u64 (r : Int) ((s[4 + z + 7]).toNat * 72057594037927936 : Int) = ((r + (s[4 + z + 7]).toNat * 256 ^ 7 : Nat) : Int) := by first | exact ho0 | (rw [Nat.pow_zero, Nat.mul_one] at ho0 ⊢; exact ho0)
          rw [show ((7 : Nat) : Int) = 7 from rfl]
          clear ho0 hlt
          go_wp2
          go_round
          case rel => exact ⟨8, by omega, by go_num, by rw [HST.out, HSI.out]; congr 1; try omega⟩
          case measure => simp [intOf]
        · rw [show ((8 : Nat) : Int) = 8 from rfl]
          generalize Crc.le ((s.data.toList.drop (4 + z)).take 8) = r at *
          have hex : (s.extract 0 (4 + z)).data.toList = s.data.toList.take (4 + z) := by rw [Lib.extract_data]; simp
          have OF := Lib.hid (of_one (s.extract 0 (4 + z)) w HT.out (by simp; omega))
          rw [hex] at OF
          clear hex
          by_cases hsm : r = Crc.sum (s.data.toList.take (4 + z))
          · have HO := Lib.hid (show opened s.data.toList = ((s.data.toList.drop 4).take z, z + 12, 0) from by rw [HOQ.out, if_pos hsm])
            have HX := Lib.hid (show (s.extract 4 (4 + z)) = ⟨((s.data.toList.drop 4).take z).toArray⟩ from by
              apply ByteArray.ext
              apply Array.toList_inj.1
              rw [Lib.extract_data]; simp)
            rw [← hsm] at OF
            clear hsm HOQ
            go_wp2_with (go_at_call 12; refine OF.out.mono ?_; rintro e w1 ⟨rfl, hb1⟩)
            go_ret3
            exact ⟨by rw [HO.out]; exact ret_sii HX.out (show (4 + (z : Int) + 8) = ((z + 12 : Nat) : Int) from by omega) rfl, hb1⟩
          · have HO := Lib.hid (show opened s.data.toList = ([], 0, 2) from by rw [HOQ.out, if_neg hsm])
            have hne : ((r : Int) != ((Crc.sum (s.data.toList.take (4 + z)) : Nat) : Int)) = true := bne_iff_ne.2 (fun h => hsm (by omega))
            clear hsm HOQ
            generalize Crc.sum (s.data.toList.take (4 + z)) = sm at *
            go_wp2_with (go_at_call 12; refine OF.out.mono ?_; rintro e w1 ⟨rfl, hb1⟩)
            go_ret3
            exact ⟨by rw [HO.out]; rfl, hb1⟩
end Go.Proofs.YtmmgicomidpmhaaDoor

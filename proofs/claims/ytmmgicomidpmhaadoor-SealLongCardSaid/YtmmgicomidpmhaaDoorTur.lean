/- The document's answer for package seal: bytes with a burst. -/
import Derived.Test.YtmmgicomidpmhaaDoorSam
import Derived.Deep.RegionWith
import Derived.BigRegion
import Derived.Laws.IdiomStrings
import Derived.Laws.BitsAllLaws
namespace Go.Proofs.YtmmgicomidpmhaaDoor
open Go.ChangeShapes Go.WideShapes Go.ChangeAt Go.RowKit
namespace Crc
/-- The lowest n bits. -/
theorem mod_succ (x n : Nat) : x % 2 ^ (n + 1) = (x % 2 ^ n) ^^^ (((x / 2 ^ n) % 2) <<< n) := by
  apply Nat.eq_of_testBit_eq
  intro i
  rw [Nat.testBit_xor, Nat.testBit_mod_two_pow, Nat.testBit_mod_two_pow, Nat.testBit_shiftLeft]
  by_cases h1 : i < n
  · simp [h1, Nat.lt_succ_of_lt h1, Nat.not_le.2 h1]
  · by_cases h2 : i = n
    · subst h2
      have h3 : (x / 2 ^ i % 2).testBit 0 = x.testBit i := by
        rw [Nat.testBit_zero, Nat.testBit_eq_decide_div_mod_eq]
        simp
      simp [h3]
    · have h3 : ¬ i < n + 1 := by omega
      have h4 : (x / 2 ^ n % 2).testBit (i - n) = false := by
        apply Nat.testBit_lt_two_pow
        have : x / 2 ^ n % 2 < 2 := Nat.mod_lt _ (by decide)
        exact Nat.lt_of_lt_of_le this (by have := Nat.pow_le_pow_right (n := 2) (by decide) (show 1 ≤ i - n by omega); simpa using this)
      simp [h1, h3, h4]
end Crc
/-- The numbers that a burst lays over a text: from a bit on, as far as there are bytes. -/
def burst (n a x : Nat) : Nat := (x % 2 ^ (min 64 (8 * n - a)))
theorem bit_set (l : List UInt8) (p : Nat) (h : p / 8 < l.length) (m : UInt8) (hm : m.toNat = 2 ^ (p % 8)) : Crc.le (l.set (p / 8) (l[p / 8] ^^^ m)) = Crc.le l ^^^ (1 <<< p) := by
  rw [Crc.le_set m l (p / 8) l[p / 8] (List.getElem?_eq_getElem h), hm]
  congr 1
  rw [Nat.shiftLeft_eq, Nat.shiftLeft_eq, ← Nat.pow_add, Nat.one_mul]
  congr 1
  omega
theorem shl_bits (r : Nat) (hr : r < 8) : IntKind.u8.wrap (1 * 2 ^ r) = ((2 ^ r : Nat) : Int) := by
  have h : r = 0 ∨ r = 1 ∨ r = 2 ∨ r = 3 ∨ r = 4 ∨ r = 5 ∨ r = 6 ∨ r = 7 := by omega
  rcases h with rfl | rfl | rfl | rfl | rfl | rfl | rfl | rfl <;> rfl
theorem ofNat_pow (r : Nat) (hr : r < 8) : (UInt8.ofNat (2 ^ r)).toNat = 2 ^ r := by
  have h : r = 0 ∨ r = 1 ∨ r = 2 ∨ r = 3 ∨ r = 4 ∨ r = 5 ∨ r = 6 ∨ r = 7 := by omega
  rcases h with rfl | rfl | rfl | rfl | rfl | rfl | rfl | rfl <;> rfl
theorem xor_u8 (y : UInt8) (r : Nat) (hr : r < 8) : bits .xor .u8 (y.toNat : Int) ((2 : Int) ^ r % 256) = ((y ^^^ UInt8.ofNat (2 ^ r)).toNat : Int) := by
  rw [UInt8.toNat_xor, ofNat_pow r hr]
  have h : r = 0 ∨ r = 1 ∨ r = 2 ∨ r = 3 ∨ r = 4 ∨ r = 5 ∨ r = 6 ∨ r = 7 := by omega
  have hy := y.toNat_lt
  have e : (2 : Int) ^ r % 256 = ((2 ^ r : Nat) : Int) := by rcases h with rfl | rfl | rfl | rfl | rfl | rfl | rfl | rfl <;> rfl
  have hp : 2 ^ r < 256 := by rcases h with rfl | rfl | rfl | rfl | rfl | rfl | rfl | rfl <;> decide
  rw [e]
  exact u8_xor_nat _ _ (by simpa using hy) hp
namespace Crc
theorem shl_xor (a b n : Nat) : (a ^^^ b) <<< n = (a <<< n) ^^^ (b <<< n) := by
  apply Nat.eq_of_testBit_eq
  intro i
  simp only [Nat.testBit_xor, Nat.testBit_shiftLeft]
  by_cases h : n ≤ i <;> simp [h]
end Crc
/-- A block whose first cells are bytes. -/
def Buf (w : World) (g : Nat) (fz : Nat × Nat) (pad : List Value) (l : List UInt8) : Prop := w.heap[g]? = some (.cells (cells8 l ++ pad).toArray 5/-t-/ fz) ∧ l.length ≤ fz.1
section
variable {w w' : World} {g : Nat} {fz : Nat × Nat} {pad : List Value} {l : List UInt8}
theorem Buf.lt (h : Buf w g fz pad l) : g < w.heap.size := by
  rcases Nat.lt_or_ge g w.heap.size with hlt | hge
  · exact hlt
  · have := h.1; rw [Array.getElem?_eq_none hge] at this; cases this
theorem Buf.cell (h : Buf w g fz pad l) (j : Nat) (hj : j < l.length) : w.cell? ⟨g, j, none⟩ = some (.int .u8 (l[j].toNat : Int)) := by
  rw [cell_of_row w g j _ _ _ h.1]
  simp [cells8, List.getElem?_append, hj]
theorem Buf.frozen (h : Buf w g fz pad l) (j : Nat) (hj : j < l.length) : w.frozen? ⟨g, j, none⟩ = false := by
  have h2 := h.2
  simp [World.frozen?, h.1]
  omega
theorem Buf.put (h : Buf w g fz pad l) (j : Nat) (hj : j < l.length) (x : UInt8) (X : Int) (hX : X = (x.toNat : Int)) : Buf (w.setCell ⟨g, j, none⟩ (.int .u8 X)) g fz pad (l.set j x) := by
  subst hX
  refine ⟨?_, by simpa using h.2⟩
  have h1 := h.1
  simp only [World.setCell, Array.getElem?_modify, h1, if_pos, Option.map_some]
  congr 2
  apply Array.toList_inj.1
  simp [cells8, List.set_append, hj, List.map_set]
theorem Buf.conv (h : Buf w g fz pad l) (n cap : Nat) (hn : l.length = n) : (convert 37/-t-/ 9/-t-/ (.slice (some ⟨g, 0, none⟩) n cap)).run Tryd.prog w = .ok (.string ⟨l.toArray⟩) w := by
  subst hn
  exact run_convert_bytes_back (P := Tryd.prog) _ 37/-t-/ 9/-t-/ 5/-t-/ ⟨g, 0, none⟩ cap l Tryd.underlying37/-t-/ Tryd.underlying5/-t-/ Tryd.underlying9/-t-/ (fun j hj => by
    rw [addr_add, Nat.zero_add]; exact h.cell j hj)
theorem Buf.drew (h : Buf w g fz pad l) : Buf w.drew g fz pad l := h
end
theorem buf_made (s : ByteArray) (w : World) : ∃ cap fz pad, (convert 9/-t-/ 37/-t-/ (.string s)).run Tryd.prog w = .ok (.slice (some ⟨w.heap.size, 0, none⟩) s.size cap) (w.drew.alloc (.cells (cells8 s.data.toList ++ pad).toArray 5/-t-/ fz)) ∧ s.size ≤ fz.1 := by
  have h := run_bytes_of_string (P := Tryd.prog) w 9/-t-/ 37/-t-/ 5/-t-/ s Tryd.underlying9/-t-/ Tryd.underlying37/-t-/ Tryd.underlying5/-t-/
  have e : bytesRow s (grownCap w s.size 0 5/-t-/) = (cells8 s.data.toList ++ List.replicate (grownCap w s.size 0 5/-t-/ - s.size) (Value.int .u8 0)).toArray := by
    unfold bytesRow cells8
    apply Array.toList_inj.1
    simp
  rw [e] at h
  exact ⟨_, _, _, h, by simp [cells8]⟩
set_option maxRecDepth 100000 in
set_option maxHeartbeats 4000000 in
theorem turned_any (s : ByteArray) (a : Nat) (x : Nat) (w : World) (h0 : 0 < s.size) (hs : s.size ≤ 1000000) (ha : a ≤ 8 * s.size) (hx : x < 18446744073709551616) :
    Calls Tryd.prog 21/-f-/ #[.string s, .int .i64 a, .int .u64 x] w fun e w' => (∃ T : ByteArray, e = .returned (.string T) ∧ T.size = s.size ∧ Crc.le T.data.toList = Crc.le s.data.toList ^^^ (burst s.size a x <<< a)) ∧ Below w.heap.size w w' := by
  obtain ⟨cap, fz, pad, hconv, hfz⟩ := buf_made s w
  go_enter Tryd.func21/-f-/, Tryd.ntmps21/-f-/
  go_wp2
  clear hconv
  go_loopw [8] (fun i wr => ∃ (k : Nat) (l : List UInt8), k ≤ 64 ∧ a + k ≤ 8 * s.size ∧ i = .int .i64 k ∧ l.length = s.size ∧ Below w.heap.size w wr ∧ Buf wr w.heap.size fz pad l ∧ Crc.le l = Crc.le s.data.toList ^^^ ((x % 2 ^ k) <<< a)) (fun i _ => 64 - (intOf i).toNat)
  case atStart =>
    refine ⟨0, s.data.toList, by omega, by omega, rfl, by simp, ((Below.refl _ _).drew).alloc (by simp) _, ⟨heap_alloc_new _ _, by simpa using hfz⟩, by simp [Nat.mod_one]⟩
  case round =>
    obtain ⟨k, l, hk, hak, rfl, hl, hb, hbuf, hle⟩ := hrel
    have HLE := Lib.hid hle
    have HL := Lib.hid hl
    have HB := Lib.hid hb
    have HBUF := Lib.hid hbuf
    have HX := Lib.hid hx
    clear hle hl hb hbuf hx
    by_cases hin : k < 64 ∧ a + k < 8 * s.size
    · obtain ⟨hk1, hk2⟩ := hin
      have hpl : (a + k) / 8 < l.length := by have := HL.out; omega
      have LE2 := Lib.hid (Crc.mod_succ x k)
      by_cases h1 : x / 2 ^ k % 2 = 1
      · have hb1 : (((x : Int) / 2 ^ k).tmod 2 == 1) = true := by
          have e : ((x : Int) / 2 ^ k) = ((x / 2 ^ k : Nat) : Int) := by push_cast; rfl
          rw [e, Int.tmod_eq_emod_of_nonneg (Int.natCast_nonneg _)]
          simp; omega
        have H1 := Lib.hid h1
        clear h1
        obtain ⟨y, hy, hc⟩ : ∃ y : UInt8, l[(a + k) / 8]? = some y ∧ wr.cell? ⟨w.heap.size, (a + k) / 8, none⟩ = some (.int .u8 (y.toNat : Int)) := ⟨_, List.getElem?_eq_getElem hpl, HBUF.out.cell _ hpl⟩
        have hf := HBUF.out.frozen _ hpl
        have hg := HBUF.out.lt
        have hpn : (a + k) / 8 < s.size := by omega
        have HPL := Lib.hid hpl
        have HY := Lib.hid hy
        clear hpl hy
        go_wp2
        have hk3 : IntKind.i64.wrap ((a : Int) + k) = a + k := IntWalk.i64_in _ (by omega)
        go_region
        go_wp2
        have hxy := xor_u8 y ((a + k) % 8) (by omega)
        go_roundw
        case rel =>
          refine ⟨k + 1, l.set ((a + k) / 8) (y ^^^ UInt8.ofNat (2 ^ ((a + k) % 8))), by omega, by omega, by go_num, by rw [List.length_set]; exact HL.out, (HB.out.setCell (Nat.le_refl _) _).drew, (HBUF.out.put _ HPL.out _ _ hxy).drew, ?_⟩
          have hs8 := bit_set l (a + k) HPL.out (UInt8.ofNat (2 ^ ((a + k) % 8))) (ofNat_pow ((a + k) % 8) (by omega))
          have hyl : l[(a + k) / 8]'HPL.out = y := by
            have := HY.out
            rw [List.getElem?_eq_getElem HPL.out] at this
            exact Option.some.inj this
          rw [hyl] at hs8
          rw [hs8, HLE.out, LE2.out, H1.out, Crc.shl_xor]
          rw [Nat.xor_assoc]
          congr 2
          rw [Nat.shiftLeft_eq, Nat.shiftLeft_eq, Nat.shiftLeft_eq, Nat.pow_add]
          simp [Nat.mul_comm]
        case measure => simp [intOf]; omega
      · have hb1 : (((x : Int) / 2 ^ k).tmod 2 == 1) = false := by
          have e : ((x : Int) / 2 ^ k) = ((x / 2 ^ k : Nat) : Int) := by push_cast; rfl
          rw [e, Int.tmod_eq_emod_of_nonneg (Int.natCast_nonneg _)]
          simp; omega
        have H1 := Lib.hid h1
        clear h1
        go_wp2
        go_roundw
        case rel => exact ⟨k + 1, l, by omega, by omega, by go_num, HL.out, HB.out, HBUF.out, by
          rw [LE2.out, HLE.out]
          have : x / 2 ^ k % 2 = 0 := by have := H1.out; omega
          rw [this]; simp⟩
        case measure => simp [intOf]; omega
    · have hmin : k = min 64 (8 * s.size - a) := by omega
      have hcv := HBUF.out.conv s.size cap HL.out
      have HMIN := Lib.hid hmin
      have HIN := Lib.hid hin
      clear hmin hin
      by_cases hk1 : k < 64
      · have hno : decide ((a : Int) + k < 8 * s.size) = false := by have := HIN.out; simp; omega
        go_wp2
        go_ret
        refine ⟨⟨_, rfl, ?_, ?_⟩, HB.out⟩
        · show l.toArray.size = s.size
          rw [List.size_toArray]; exact HL.out
        · have h9 := HLE.out
          rw [HMIN.out] at h9
          exact h9
      · go_wp2
        go_ret
        refine ⟨⟨_, rfl, ?_, ?_⟩, HB.out⟩
        · show l.toArray.size = s.size
          rw [List.size_toArray]; exact HL.out
        · have h9 := HLE.out
          rw [HMIN.out] at h9
          exact h9
end Go.Proofs.YtmmgicomidpmhaaDoor

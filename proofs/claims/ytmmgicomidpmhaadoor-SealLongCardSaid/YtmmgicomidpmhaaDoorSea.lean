/- Contracts of package seal: sums. -/
import Derived.Test.YtmmgicomidpmhaaDoorOff
import Derived.Test.YtmmgicomidpmhaaDoorCrc
import Derived.BigQuiet
import Derived.Deep.QuietTactic
import Derived.Deep.DeepCutAuto
import Derived.Deep.CutBlock
namespace Go.Proofs.YtmmgicomidpmhaaDoor
open Go.ChangeShapes Go.WideShapes Go.ChangeAt Go.RowKit
/-- A slice reads as a list of texts. -/
def Strs (w : World) (A : Option Addr) (ss : List ByteArray) : Prop :=
  ss = [] ∨ ∃ b off, A = some ⟨b, off, none⟩ ∧ b < w.heap.size ∧ ∀ i (_ : i < ss.length), w.cell? ⟨b, off + i, none⟩ = some (.string (ss.getD i ⟨#[]⟩))
theorem Strs.keep {w w' : World} {A : Option Addr} {ss : List ByteArray} (h : Strs w A ss) (hb : Below w.heap.size w w') : Strs w' A ss := by
  rcases h with h | ⟨b, off, h1, h2, h3⟩
  · exact .inl h
  · exact .inr ⟨b, off, h1, Nat.lt_of_lt_of_le h2 hb.size, fun i hi => (hb.cell (p := ⟨b, off + i, none⟩) h2).trans (h3 i hi)⟩
theorem Strs.off {S : Nat → Prop} {w w' : World} {A : Option Addr} {ss : List ByteArray} (h : Strs w A ss) (hb : Off S w w') (hn : ∀ ad, A = some ad → ¬ S ad.block) : Strs w' A ss := by
  rcases h with h | ⟨b, off, h1, h2, h3⟩
  · exact .inl h
  · exact .inr ⟨b, off, h1, Nat.lt_of_lt_of_le h2 hb.size, fun i hi => by rw [← h3 i hi]; exact World.cell?_of_block (a := ⟨b, off + i, none⟩) (hb.block b h2 (hn _ h1))⟩
/-- All bytes of texts. -/
def cat (ss : List ByteArray) : List UInt8 := ss.flatMap fun s => s.data.toList
theorem cat_take (ss : List ByteArray) (k : Nat) (h : k < ss.length) : cat (ss.take (k + 1)) = cat (ss.take k) ++ (ss.getD k ⟨#[]⟩).data.toList := by
  rw [List.take_succ_eq_append_getElem h]
  unfold cat
  rw [List.flatMap_append]
  simp [List.getD, List.getElem?_eq_getElem h]
/-- The table of sixteen numbers lies where it is laid. -/
structure QT (w : World) : Prop where
  lt : 0 < w.heap.size
  cell : ∀ k, k < 16 → w.cell? ⟨0, k, none⟩ = some (.int .u64 (Crc.Q.getD k 0 : Nat))
theorem QT.below {B : Nat} {w w' : World} (h : QT w) (hb : Below B w w') (hB : 0 < B) : QT w' := ⟨Nat.lt_of_lt_of_le h.lt hb.size, fun k hk => (hb.cell (p := ⟨0, k, none⟩) hB).trans (h.cell k hk)⟩
theorem QT.off {S : Nat → Prop} {w w' : World} (h : QT w) (hb : Off S w w') (hn : ¬ S 0) : QT w' := ⟨Nat.lt_of_lt_of_le h.lt hb.size, fun k hk => by rw [← h.cell k hk]; exact World.cell?_of_block (a := ⟨0, k, none⟩) (hb.block _ h.lt hn)⟩
theorem inv_bits (v : Nat) (hv : v < 18446744073709551616) : bits .xor .u64 IntKind.u64.max (v : Int) = ((Crc.inv v : Nat) : Int) := by
  have h := bits_xor_u64_nat 18446744073709551615 v (by decide) hv
  unfold Crc.inv
  rw [Nat.xor_comm]
  exact h
theorem and_bits (r d : Nat) (hr : r < 18446744073709551616) (hd : d = r % 16) : bits .and .u64 (r : Int) 15 = (d : Int) := by
  have h := u64_and (r : Int) 15 (by omega) (by omega) (by omega) (by omega)
  rw [h, hd]
  have : ((r : Int).toNat &&& (15 : Int).toNat) = r % 16 := Nat.and_two_pow_sub_one_eq_mod r 4
  rw [this]
theorem shr_bits (r q : Nat) (hr : r < 18446744073709551616) (hq : q < 18446744073709551616) : bits .xor .u64 ((r : Int) / 16) (q : Int) = ((r / 16 ^^^ q : Nat) : Int) := by
  have h := bits_xor_u64_nat (r / 16) q (by omega) hq
  rw [← h]
  rfl
theorem Q_lt : ∀ d, d < 16 → Crc.Q.getD d 0 < 18446744073709551616 := by decide
set_option maxHeartbeats 4000000 in
theorem add_any (g v : Nat) (A : Option Addr) (n c : Nat) (ss : List ByteArray) (w : World) (hg : Blk w g 29 #[.int .u64 v]) (hv : v < 18446744073709551616) (hA : Strs w A ss) (hT : QT w) (hn : ss.length = n) (hs : n ≤ 1000000) (hb : ∀ s ∈ ss, s.size ≤ 1000000) :
    Calls Tryd.prog 10 #[.pointer (some ⟨g, 0, none⟩), .slice A n c] w fun e w' => e = .returned (.pointer (some ⟨g, 0, none⟩)) ∧ w' = w.setCell ⟨g, 0, none⟩ (.int .u64 (Crc.inv (Crc.crc (Crc.inv v) (cat ss)) : Nat)) := by
  subst hn
  have c0 := hg.cell 0
  have f0 := hg.frozen 0
  have hlt := hg.lt
  simp at c0
  have HG := Lib.hid hg
  have HT := Lib.hid hT
  clear hg hT
  go_enter Tryd.func10, Tryd.ntmps10
  go_wp2
  have hr0 := Crc.inv_lt (r := v) hv
  rw [inv_bits v hv]
  generalize hr00 : Crc.inv v = r0 at *
  have HR0 := Lib.hid hr00
  clear hr00
  go_loop [5, 18] (fun r i => ∃ k : Nat, k ≤ ss.length ∧ i = .int .i64 k ∧ r = .int .u64 (Crc.crc r0 (cat (ss.take k)) : Nat)) (fun _ i => ss.length - (intOf i).toNat)
  case atStart => exact ⟨0, Nat.zero_le _, rfl, rfl⟩
  case round =>
    obtain ⟨k, hk, rfl, rfl⟩ := hrel
    by_cases hlt' : k < ss.length
    · have hct := cat_take ss k hlt'
      have hsz := hb _ (List.getElem_mem hlt')
      rw [show ss[k] = ss.getD k ⟨#[]⟩ from by simp [List.getD, List.getElem?_eq_getElem hlt']] at hsz
      rcases hA with h | ⟨b, off, rfl, hbw, hcell⟩
      · subst h; simp at hlt'
      have x0 := hcell k hlt'
      have HCT := Lib.hid hct
      have HB := Lib.hid hb
      have hr1 := Crc.crc_lt (cat (ss.take k)) (r := r0) hr0
      have HCC := Lib.hid hcell
      clear hct hb hcell
      generalize ss.getD k ⟨#[]⟩ = s at *
      generalize hr11 : Crc.crc r0 (cat (ss.take k)) = r1 at *
      have HR1 := Lib.hid hr11
      clear hr11
      go_wp2
      go_loop [5, 24] (fun r j => ∃ m : Nat, m ≤ s.size ∧ j = .int .i64 m ∧ r = .int .u64 (Crc.crc r1 (s.data.toList.take m) : Nat)) (fun _ j => s.size - (intOf j).toNat)
      case atStart => exact ⟨0, Nat.zero_le _, rfl, rfl⟩
      case round =>
        obtain ⟨m, hm, rfl, rfl⟩ := hrel
        by_cases hml : m < s.size
        · have hr2 := Crc.crc_lt (s.data.toList.take m) (r := r1) hr1
          have hts : s.data.toList.take (m + 1) = s.data.toList.take m ++ [s[m]] := by
            rw [List.take_succ_eq_append_getElem (by simpa using hml)]; rfl
          have hst := Lib.hid (show Crc.crc r1 (s.data.toList.take (m + 1)) = Crc.byte (Crc.crc r1 (s.data.toList.take m)) s[m].toNat from by rw [hts, Crc.crc_snoc])
          have hc8 : s[m].toNat < 256 := s[m].toNat_lt
          clear hts
          generalize Crc.crc r1 (s.data.toList.take m) = r2 at *
          have e1 := bits_xor_u64_nat r2 s[m].toNat hr2 (by omega)
          have hr3 : r2 ^^^ s[m].toNat < 18446744073709551616 := Nat.xor_lt_two_pow (n := 64) hr2 (by omega)
          have hst2 := Lib.hid (show Crc.byte r2 s[m].toNat = ((((r2 ^^^ s[m].toNat) / 16) ^^^ Crc.Q.getD ((r2 ^^^ s[m].toNat) % 16) 0) / 16) ^^^ Crc.Q.getD ((((r2 ^^^ s[m].toNat) / 16) ^^^ Crc.Q.getD ((r2 ^^^ s[m].toNat) % 16) 0) % 16) 0 from Crc.byte_eq _ _)
          generalize r2 ^^^ s[m].toNat = r3 at *
          have TC := Lib.hid HT.out.cell
          obtain ⟨d3, hd3⟩ : ∃ d3, d3 = r3 % 16 := ⟨_, rfl⟩
          have hl3 : d3 < 16 := by omega
          have a3 := and_bits r3 d3 hr3 hd3
          have t3 := TC.out d3 hl3
          rw [← hd3] at hst2
          have q3 := Q_lt d3 hl3
          clear hd3
          generalize Crc.Q.getD d3 0 = z3 at *
          have s3 := shr_bits r3 z3 hr3 q3
          have hr4 : r3 / 16 ^^^ z3 < 18446744073709551616 := Nat.xor_lt_two_pow (n := 64) (by omega) q3
          generalize r3 / 16 ^^^ z3 = r4 at *
          obtain ⟨d4, hd4⟩ : ∃ d4, d4 = r4 % 16 := ⟨_, rfl⟩
          have hl4 : d4 < 16 := by omega
          have a4 := and_bits r4 d4 hr4 hd4
          have t4 := TC.out d4 hl4
          rw [← hd4] at hst2
          have q4 := Q_lt d4 hl4
          clear hd4
          generalize Crc.Q.getD d4 0 = z4 at *
          have s4 := shr_bits r4 z4 hr4 q4
          generalize r4 / 16 ^^^ z4 = r5 at *
          go_wp2
          go_round
          case rel => exact ⟨m + 1, by omega, by go_num, by rw [hst.out, hst2.out]⟩
          case measure => simp [intOf]; omega
        · have hms : m = s.size := by omega
          subst hms
          have hfull : Crc.crc r1 (s.data.toList.take s.size) = Crc.crc r0 (cat (ss.take (k + 1))) := by
            rw [HCT.out, Crc.crc_append, HR1.out, List.take_of_length_le (by simp)]
          rw [hfull]
          clear hfull
          go_wp2
          go_round
          case rel => exact ⟨k + 1, by omega, by go_num, rfl⟩
          case measure => simp [intOf]; omega
    · have hkl : k = ss.length := by omega
      subst hkl
      rw [List.take_length]
      have hr9 := Crc.crc_lt (cat ss) (r := r0) hr0
      have HI := Lib.hid (inv_bits (Crc.crc r0 (cat ss)) hr9)
      generalize hr99 : Crc.crc r0 (cat ss) = r9 at *
      have HR9 := Lib.hid hr99
      clear hr99
      go_wp2
      go_ret
      exact ⟨rfl, by rw [HI.out, HR0.out, HR9.out]⟩
theorem add_nil (A : Option Addr) (n c : Nat) (w : World) : Calls Tryd.prog 10 #[.pointer none, .slice A n c] w fun e w' => e = .returned (.pointer none) ∧ w = w' := by
  go_enter Tryd.func10, Tryd.ntmps10
  go_wp2
  go_ret
  exact ⟨rfl, rfl⟩
theorem value_any (g v : Nat) (w : World) (hg : Blk w g 29 #[.int .u64 v]) : Calls Tryd.prog 14 #[.pointer (some ⟨g, 0, none⟩)] w fun e w' => e = .returned (.int .u64 v) ∧ w = w' := by
  have c0 := hg.cell 0
  simp at c0
  clear hg
  go_enter Tryd.func14, Tryd.ntmps14
  go_wp2
  go_ret
  exact ⟨rfl, rfl⟩
theorem value_nil (w : World) : Calls Tryd.prog 14 #[.pointer none] w fun e w' => e = .returned (.int .u64 0) ∧ w = w' := by
  go_enter Tryd.func14, Tryd.ntmps14
  go_wp2
  go_ret
  exact ⟨rfl, rfl⟩
theorem of_any (A : Option Addr) (n c : Nat) (ss : List ByteArray) (w : World) (hA : Strs w A ss) (hT : QT w) (hn : ss.length = n) (hs : n ≤ 1000000) (hb : ∀ s ∈ ss, s.size ≤ 1000000) :
    Calls Tryd.prog 12 #[.slice A n c] w fun e w' => e = .returned (.int .u64 (Crc.sum (cat ss) : Nat)) ∧ Below w.heap.size w w' := by
  have hb0 : Below w.heap.size w (w.alloc (.cells #[.int .u64 0] 29)) := (Below.refl _ _).alloc (Nat.le_refl _) _
  have AD := Lib.hid (add_any w.heap.size 0 A n c ss (w.alloc (.cells #[.int .u64 0] 29)) (Blk.new _ _ _) (by omega) (hA.keep hb0) (hT.below hb0 hT.lt) hn hs hb)
  have VA := Lib.hid (fun v : Nat => value_any w.heap.size v (w.alloc (.cells #[.int .u64 v] 29)) (Blk.new w 29 #[.int .u64 v]))
  have HS := Lib.hid (show Crc.inv (Crc.crc (Crc.inv 0) (cat ss)) = Crc.sum (cat ss) from rfl)
  rw [HS.out] at AD
  generalize Crc.sum (cat ss) = z at *
  clear hA hT hb
  go_enter Tryd.func12, Tryd.ntmps12
  go_wp2_with (first | (go_at_call 10; refine AD.out.mono ?_; rintro e w1 ⟨rfl, rfl⟩) | (go_at_call 14; refine (VA.out _).mono ?_; rintro e w2 ⟨rfl, rfl⟩))
  go_ret
  exact ⟨rfl, (Below.refl _ _).alloc (Nat.le_refl _) _⟩
end Go.Proofs.YtmmgicomidpmhaaDoor

/- Contracts of package codec: the writer. -/
import Derived.Test.YtacangeamdcgdaaCbt
import Derived.Test.YtacangeamdcgdaaCdm
import Derived.Deep.AppendLies
import Derived.Deep.RegionLaw
import Derived.Deep.DeepCutAuto
import Derived.BigRegion
namespace Go.Proofs.Ytacangeamdcgdaa
open Go.ChangeShapes Go.WideShapes Go.ChangeAt Go.RowKit
/-- A writer lies at block g, and has laid these bytes. -/
def Wr (w : World) (g base : Nat) (l : List UInt8) : Prop := base ≤ g ∧ ∃ v, Blk w g 109 #[v] ∧ Row8 w base v l
/-- Blocks of another type than bytes', and not block g, are as they were. -/
def Kept (g : Nat) (w w' : World) : Prop := ∀ (b t : Nat) (cs : Array Value), b ≠ g → t ≠ 5 → Blk w b t cs → Blk w' b t cs
theorem own_ne {w : World} {base g t : Nat} {v : Value} {l : List UInt8} {cs : Array Value} (h : Row8 w base v l) (hb : Blk w g t cs) (ht : t ≠ 5) : v.ownBlock ≠ some g := by
  intro hv
  rcases h.2 with ⟨rfl, _⟩ | ⟨g', cap, cur, rfl, _, hh, _⟩
  · cases hv
  · obtain rfl : g' = g := by simpa [Value.ownBlock] using hv
    unfold Blk at hb
    rw [hb] at hh
    simp at hh
    exact ht hh.2
theorem own_slice {w : World} {base e size n : Nat} {v : Value} {xs : List Value} (h : w.ownsRow base e size v n xs) : ∃ A c, v = .slice A n c := by
  rcases h.2 with ⟨rfl, h0⟩ | ⟨g, cap, cur, rfl, _⟩
  · subst h0; exact ⟨_, _, rfl⟩
  · exact ⟨_, _, rfl⟩
theorem Kept.refl (g : Nat) (w : World) : Kept g w w := fun _ _ _ _ _ h => h
theorem Kept.trans {g : Nat} {a b c : World} (h : Kept g a b) (k : Kept g b c) : Kept g a c := fun _ _ _ h1 h2 h3 => k _ _ _ h1 h2 (h _ _ _ h1 h2 h3)
theorem Kept.alloc {g : Nat} {a b : World} (h : Kept g a b) (o : Obj) : Kept g a (b.alloc o) := fun _ _ _ h1 h2 h3 => (h _ _ _ h1 h2 h3).alloc o
theorem Kept.put {g : Nat} {a b : World} (h : Kept g a b) (i : Nat) (u : Value) : Kept g a (b.setCell ⟨g, i, none⟩ u) := fun _ _ _ h1 h2 h3 => (h _ _ _ h1 h2 h3).far (p := ⟨g, i, none⟩) h1 u
theorem Kept.grown {g base : Nat} {a b c : World} (h : Kept g a b) {v : Value} {l : List UInt8} (hr : Row8 b base v l) (hg : b.grownBy c v.ownBlock) : Kept g a c :=
  fun _ _ _ h1 h2 h3 => blk_grown (h _ _ _ h1 h2 h3) hg (own_ne hr (h _ _ _ h1 h2 h3) h2)
theorem Kept.below {g : Nat} {a b c : World} (h : Kept g a b) (hb : Below b.heap.size b c) : Kept g a c := fun _ _ _ h1 h2 h3 => (h _ _ _ h1 h2 h3).below hb (h _ _ _ h1 h2 h3).lt
/-- What laying leaves: the bytes are there, nothing else has turned. -/
structure Laid (g base : Nat) (l : List UInt8) (w w' : World) : Prop where
  wr : Wr w' g base l
  below : Below base w w'
  kept : Kept g w w'
theorem Laid.refl {g base : Nat} {l : List UInt8} {w : World} (h : Wr w g base l) : Laid g base l w w := ⟨h, Below.refl _ _, Kept.refl _ _⟩
theorem Laid.trans {g base : Nat} {l m : List UInt8} {a b c : World} (h : Laid g base l a b) (k : Laid g base m b c) : Laid g base m a c :=
  ⟨k.wr, h.below.trans k.below, h.kept.trans k.kept⟩
theorem Laid.base {g base : Nat} {l : List UInt8} {w w' : World} (h : Laid g base l w w') (hb : base ≤ w.heap.size) : base ≤ w'.heap.size := Nat.le_trans hb h.below.size
/-- One byte more, by append and store. -/
theorem laid_put {g base : Nat} {l : List UInt8} {w wr w1 w2 : World} {v v' : Value} {x : UInt8} (hl : Laid g base l w wr) (hb : base ≤ w.heap.size) (hv : Row8 wr base v l) {X : Int} {t : TypeId} (hX : X = (x.toNat : Int)) {cs : Array Value}
    (ho : w1.ownsRow base 5 1 v' (l.length + 1) (cells8 l ++ [.int .u8 X])) (hg : (wr.alloc (.cells cs t)).grownBy w1 v.ownBlock) (hB : Blk w1 g 109 #[v])
    (h2 : w2 = w1.setCell ⟨g, 0, none⟩ v') : Laid g base (l ++ [x]) w w2 := by
  subst h2
  have hbs := hl.base hb
  have hr : Row8 w1 base v' (l ++ [x]) := row8_step ho rfl rfl hX rfl
  refine ⟨⟨hl.wr.1, v', hB.put 0 v', ?_⟩, ?_, ?_⟩
  · obtain ⟨h1, h2⟩ := hr
    refine ⟨h1, ?_⟩
    rcases h2 with h2 | ⟨g', cap, cur, rfl, hb', hh, rest⟩
    · exact .inl h2
    · refine .inr ⟨g', cap, cur, rfl, hb', ?_, rest⟩
      have hne : g' ≠ g := by
        rintro rfl
        unfold Blk at hB
        rw [hB] at hh
        simp at hh
      exact (show Blk w1 g' 5 cur from hh).far (p := ⟨g, 0, none⟩) hne _
  · exact ((hl.below.alloc hbs _).grown hg (by simp; omega) (fun k hk => (hv.lt k hk).1)).setCell (p := ⟨g, 0, none⟩) hl.wr.1 _
  · exact ((hl.kept.alloc _).grown (hv.alloc _) hg).put 0 _
set_option maxRecDepth 100000 in
set_option maxHeartbeats 4000000 in
theorem natural_any (g base : Nat) (l : List UInt8) (n : Nat) (w : World) (h : Wr w g base l) (hn : n < 18446744073709551616) (hb : base ≤ w.heap.size) (hl : l.length ≤ 1000000000) :
    Calls Try.prog 78/-f-/ #[.pointer (some ⟨g, 0, none⟩), .int .u64 n] w fun e w' => e = .returned (.tuple #[]) ∧ Laid g base (l ++ num n) w w' := by
  obtain ⟨i0, hi, hz0, hz1, hz2⟩ := info_parts info5
  have hlen := nb_len 8 n (by simpa using hn)
  have HL0 := Lib.hid (Laid.refl h)
  obtain ⟨hbg, v, hblk, hrow⟩ := h
  have c0 := hblk.cell 0
  have f0 := hblk.frozen 0
  have hlt := hblk.lt
  simp at c0
  have HBK := Lib.hid hblk
  have HROW := Lib.hid hrow
  clear hblk hrow
  obtain ⟨c, hc⟩ : ∃ c, c = (nb n).length := ⟨_, rfl⟩
  have HC := Lib.hid hc
  have hc8 : c ≤ 8 := by omega
  clear hc hlen
  go_enter Try.func78, Try.ntmps78
  go_wp2
  go_loop [4, 5] (fun x r => ∃ k m : Nat, x = .int .i64 k ∧ r = .int .u64 m ∧ m < 18446744073709551616 ∧ k ≤ c ∧ Hid (k + (nb m).length = c)) (fun _ r => (intOf r).toNat)
  case atStart => exact ⟨0, n, rfl, rfl, hn, by omega, Lib.hid (by rw [HC.out]; omega)⟩
  case round =>
    obtain ⟨k, m, rfl, rfl, hm, hkc, hk⟩ := hrel
    by_cases h0 : 0 < m
    · have hp := nb_pos m h0
      have hk2 : Hid (k + 1 + (nb (m / 256)).length = c) := Lib.hid (by have := hk.out; rw [hp] at this; simp at this; omega)
      have hkc2 : k + 1 ≤ c := by have := hk2.out; omega
      clear hp hk
      go_wp2
      go_round
      case rel => exact ⟨k + 1, m / 256, by go_num, by go_num, by omega, hkc2, hk2⟩
      case measure => simp [intOf]; omega
    · have hm0 : m = 0 := by omega
      have hkk : k = c := by have := hk.out; rw [hm0, nb_zero] at this; simpa using this
      subst hkk
      have HM := Lib.hid hm0
      clear hm0 hk
      go_wp2_with (at_builtin; refine wpList_append_src _ rfl _ _ 105 rfl base 5 i0 (.int .u8 0) 1 1 Try.underlying105 hi hz0 hz1 hz2 rfl (by decide) v l.length _ rfl (World.ownsRow.alloc HROW.out _) (some ⟨w.heap.size, 0, none⟩) 1 1 [_] rfl (Src.one _ _ _ rfl) (by unfold maxLen; omega) (by omega) (by simp; omega) ?_; intro v' w1 hown1 hgr1 hnew1; obtain ⟨A1, c1, rfl⟩ := own_slice hown1; have HO1 := Lib.hid hown1; have HG1 := Lib.hid hgr1; have B1 := Lib.hid (blk_grown (HBK.out.alloc _) hgr1 (own_ne HROW.out HBK.out (by decide))); have q0 := B1.out.cell 0; have r0 := B1.out.frozen 0; have s0 := B1.out.lt; simp at q0; clear hown1 hgr1 hnew1)
      have HL1 := Lib.hid (laid_put (x := UInt8.ofNat k) HL0.out hb HROW.out (by rw [UInt8.toNat_ofNat']; omega) HO1.out HG1.out B1.out rfl)
      go_wp2
      obtain ⟨l1, hl1⟩ : ∃ l1, l1 = l ++ [UInt8.ofNat k] := ⟨_, rfl⟩
      rw [← hl1] at HL1
      have hl1l : l1.length ≤ 1000000001 := by rw [hl1]; simp; omega
      have HEQ := Lib.hid hl1
      clear hl1 HO1 HG1 B1 HROW HBK HL0 q0 r0 s0 c0 f0
      go_loopw [6, 28] (fun _ i wr => ∃ j : Nat, j ≤ k ∧ i = .int .i64 j ∧ Laid g base (l1 ++ (nb n).take j) w wr) (fun _ i _ => k - (intOf i).toNat)
      case atStart => exact ⟨0, by omega, rfl, by simpa using HL1.out⟩
      case round =>
        obtain ⟨j, hj, rfl, hlaid⟩ := hrel
        obtain ⟨L, hL⟩ : ∃ L, L = l1 ++ (nb n).take j := ⟨_, rfl⟩
        rw [← hL] at hlaid
        have hLl : L.length ≤ 1000000020 := by rw [hL, List.length_append, List.length_take]; omega
        have HLL := Lib.hid hL
        have HLD := Lib.hid hlaid
        have hbs := hlaid.base hb
        obtain ⟨_, v2, hblk2, hrow2⟩ := hlaid.wr
        have q0 := hblk2.cell 0
        have r0 := hblk2.frozen 0
        have s0 := hblk2.lt
        simp at q0
        have HBK := Lib.hid hblk2
        have HROW := Lib.hid hrow2
        clear hL hlaid hblk2 hrow2
        by_cases hjk : j < k
        · obtain ⟨z, hz⟩ : ∃ z : Nat, z = n / 256 ^ (k - 1 - j) := ⟨_, rfl⟩
          have hsh : ∀ W : World, (Op.shift BinOp.shr IntKind.u64 (n : Int) IntKind.i64 (IntKind.i64.wrap (8 * IntKind.i64.wrap (IntKind.i64.wrap ((k : Int) - 1) - (j : Int))))).run Try.prog W = .ok (.int .u64 (z : Int)) W := fun W => by
            rw [show IntKind.i64.wrap (8 * IntKind.i64.wrap (IntKind.i64.wrap ((k : Int) - 1) - (j : Int))) = ((8 * (k - 1 - j) : Nat) : Int) from by simp only [IntKind.wrap_i64]; omega]
            rw [shift_shr .u64 .i64 _ _ (by omega) (by show ((8 * (k - 1 - j) : Nat) : Int) ≤ 64; omega)]
            rw [hz, show (256 : Nat) ^ (k - 1 - j) = 2 ^ (8 * (k - 1 - j)) from by rw [show (256 : Nat) = 2 ^ 8 from rfl, ← Nat.pow_mul], Int.toNat_natCast]
            simp
          have HZ := Lib.hid hz
          clear hz
          have HW := Lib.hid (show IntKind.u8.wrap (z : Int) = (((UInt8.ofNat z).toNat : Nat) : Int) from by rw [IntKind.wrap_u8', UInt8.toNat_ofNat']; omega)
          have HNW := Lib.hid (show Src (wr.alloc (.cells #[.int .u8 (IntKind.u8.wrap (z : Int))] 5)).drew (some ⟨wr.heap.size, 0, none⟩) 1 1 [.int .u8 (IntKind.u8.wrap (z : Int))] from Src.one _ _ _ rfl)
          have HRW := Lib.hid (show (wr.alloc (.cells #[.int .u8 (IntKind.u8.wrap (z : Int))] 5)).drew.ownsRow base 5 1 v2 L.length (cells8 L) from World.ownsRow.alloc HROW.out _)
          have HBW := Lib.hid (show Blk (wr.alloc (.cells #[.int .u8 (IntKind.u8.wrap (z : Int))] 5)).drew g 109 #[v2] from HBK.out.alloc _)
          have HNE := Lib.hid (own_ne HROW.out HBK.out (by decide))
          go_upto_region 9 with fail
          go_region_law (refine step_append_src _ rfl _ _ 105 rfl base 5 i0 (.int .u8 0) 1 1 Try.underlying105 hi hz0 hz1 hz2 rfl (by decide) v2 L.length (cells8 L) (by simp [Act.eval, Act.put]) HRW.out (some ⟨wr.heap.size, 0, none⟩) 1 1 [.int .u8 (IntKind.u8.wrap (z : Int))] (by simp [Act.eval, Act.put]) HNW.out (by unfold maxLen; omega) (by omega) (by simp; omega) ?_; intro v' w1 hown1 hgr1 hnew1; obtain ⟨A1, c1, rfl⟩ := own_slice hown1; have HO1 := Lib.hid hown1; have HG1 := Lib.hid hgr1; have B1 := Lib.hid (blk_grown HBW.out hgr1 HNE.out); have q1 := B1.out.cell 0; have r1 := B1.out.frozen 0; have s1 := B1.out.lt; simp at q1; clear hown1 hgr1 hnew1)
          all_goals
            go_wp2
            go_roundw
            case rel =>
              refine ⟨j + 1, by omega, by go_num, ?_⟩
              have hT : l1 ++ (nb n).take (j + 1) = L ++ [UInt8.ofNat z] := by
                rw [nb_take n j (by have := HC.out; omega), ← List.append_assoc, ← HLL.out, ← HC.out, ← HZ.out]
              rw [hT]
              exact laid_put HLD.out hb HROW.out HW.out HO1.out ⟨HG1.out.1, HG1.out.2, HG1.out.3, HG1.out.4, HG1.out.5⟩ B1.out rfl
            case measure => simp [intOf]; omega
        · have hjk2 : j = k := by omega
          subst hjk2
          go_wp2
          go_end0
          refine ⟨rfl, ?_⟩
          have := HLD.out
          rw [HLL.out, HEQ.out, List.take_of_length_le (by have := HC.out; omega)] at this
          rw [HC.out] at this
          simpa [num] using this
end Go.Proofs.Ytacangeamdcgdaa

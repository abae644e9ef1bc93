/- Contracts of package value: keys. -/
import Derived.Test.YtddejkmfffeikaaVlc
import Derived.Lib.AppendStr
import Derived.Laws.IdiomStrings
namespace Go.Proofs.Ytddejkmfffeikaa
open Go.ChangeShapes Go.WideShapes Go.ChangeAt Go.RowKit
/-- Bytes as cells. -/
def cells8 (l : List UInt8) : List Value := l.map fun b => Value.int .u8 b.toNat
theorem cells8_append (a b : List UInt8) : cells8 (a ++ b) = cells8 a ++ cells8 b := by simp [cells8]
/-- A slice of the call's own that holds just these bytes. -/
def Row8 (w : World) (base : Nat) (v : Value) (l : List UInt8) : Prop := w.ownsRow base 5 1 v l.length (cells8 l)
theorem Row8.keep {S : Nat → Prop} {w w' : World} {base : Nat} {v : Value} {l : List UInt8} (h : Row8 w base v l) (hb : Off S w w') (hn : ∀ g, base ≤ g → g < w.heap.size → ¬ S g) : Row8 w' base v l :=
  hb.own h (fun g hg => hn g (h.lt g hg).1 (h.lt g hg).2)
theorem Row8.conv {w : World} {base : Nat} {v : Value} {l : List UInt8} (h : Row8 w base v l) (hl : 0 < l.length) : (convert 101 9 v).run Try.prog w = .ok (.string ⟨l.toArray⟩) w := by
  obtain ⟨g, cap, rfl, _, _⟩ := h.form hl
  exact run_convert_bytes_back (P := Try.prog) _ 101 9 5 ⟨g, 0, none⟩ cap l Try.underlying101/-t-/ Try.underlying5/-t-/ Try.underlying9/-t-/ (fun j hj => by
    refine h.cells (g := g) rfl j _ ?_
    simp [cells8, hj])
theorem Src.one (w : World) (x : Value) (t : TypeId) (h : x.oneCell' = true) : Src (w.alloc (.cells #[x] t)) (some ⟨w.heap.size, 0, none⟩) 1 1 [x] :=
  by
    refine ⟨rfl, ?_, ?_, ?_⟩
    · intro h; simp at h
    · intro ad hA j u hu
      obtain rfl := Option.some.inj hA
      exact cell_one_new w x t j u hu
    · intro u hu
      simp at hu; subst hu; exact h
theorem Src.two (w : World) (x y : Value) (t : TypeId) (h : x.oneCell' = true) (h' : y.oneCell' = true) : Src (w.alloc (.cells #[x, y] t)) (some ⟨w.heap.size, 0, none⟩) 2 1 [x, y] := by
  refine ⟨rfl, ?_, ?_, ?_⟩
  · intro h; simp at h
  · intro ad hA j u hu
    obtain rfl := Option.some.inj hA
    rw [addr_add, Nat.zero_add, (Blk.new w t #[x, y]).cell]
    rw [← hu]
    simp
  · intro u hu
    simp at hu; rcases hu with rfl | rfl <;> assumption
theorem info5 : (Try.prog.info? 5).map (fun i => (i.zero, i.size, i.bytes)) = some (some (.int .u8 0), 1, 1) := by kernel_rfl
theorem row8_step {w2 : World} {B n : Nat} {v' : Value} {l l' : List UInt8} {x : UInt8} {X : Int} {cs : List Value} (h : w2.ownsRow B 5 1 v' n (cs ++ [.int .u8 X])) (hc : cs = cells8 l) (hn : n = l.length + 1) (hx : X = (x.toNat : Int)) (hl : l' = l ++ [x]) : Row8 w2 B v' l' := by
  subst hx; subst hl; subst hc; subst hn
  unfold Row8
  rw [cells8_append, List.length_append]
  exact h
theorem blk_grown {wr w1 : World} {g : Nat} {t : TypeId} {cs : Array Value} {row : Option Nat} (h : Blk wr g t cs) (hg : wr.grownBy w1 row) (hn : row ≠ some g) : Blk w1 g t cs := (hg.block g h.lt (fun e => hn e.symm)).trans h
def be8 (z : Nat) : List UInt8 := (List.range 8).map fun i => UInt8.ofNat (z / 2 ^ (56 - 8 * i))
def esc (l : List UInt8) : List UInt8 := l.flatMap fun c => if c = 0 then [0, 255] else [c]
theorem esc_snoc (l : List UInt8) (c : UInt8) : esc (l ++ [c]) = esc l ++ if c = 0 then [0, 255] else [c] := by simp [esc]
theorem esc_len (l : List UInt8) : (esc l).length ≤ 2 * l.length := by
  induction l with
  | nil => simp [esc]
  | cons c r ih =>
    have : esc (c :: r) = (if c = 0 then [0, 255] else [c]) ++ esc r := rfl
    rw [this, List.length_append, List.length_cons]
    split <;> simp <;> omega
/-- A right value's key. -/
def keyOf (x : Val) : List UInt8 := if x.k = 1 then [1] ++ be8 (x.n + 9223372036854775808).toNat else if x.k = 2 then [2] ++ esc x.s.data.toList ++ [0, 1] else [3, UInt8.ofNat x.n.toNat]
theorem keyOf_len (x : Val) (h : x.s.size ≤ 300) : (keyOf x).length ≤ 700 := by
  unfold keyOf
  have := esc_len x.s.data.toList
  have hs : x.s.data.toList.length = x.s.size := by simp
  split
  · simp [be8]
  · split
    · simp only [List.length_append, List.length_cons, List.length_nil]; omega
    · simp
def keysOf (vs : List Val) : List UInt8 := vs.flatMap keyOf
set_option maxRecDepth 100000 in
set_option maxHeartbeats 4000000 in
theorem appendKey_1 (v : Value) (l : List UInt8) (base : Nat) (n : Int) (s : ByteArray) (w : World) (hrow : Row8 w base v l) (hn1 : -9223372036854775808 ≤ n) (hn2 : n ≤ 9223372036854775807) (hb : base ≤ w.heap.size) (hl : l.length ≤ 1000000) :
    Calls Try.prog 72/-f-/ #[v, .agg #[.int .i64 1, .int .i64 n, .string s]] w fun e w' => ∃ v', e = .returned v' ∧ Row8 w' base v' (l ++ ([1] ++ be8 (n + 9223372036854775808).toNat)) ∧ Below base w w' := by
  obtain ⟨i0, hi, hz0, hz1, hz2⟩ := info_parts info5
  have HROW := Lib.hid hrow
  clear hrow
  have HNE := Lib.hid (show v.ownBlock ≠ some w.heap.size from fun h => by have := (HROW.out.lt _ h).2; omega)
  have hbB : Blk ((w.alloc (.cells #[.int .i64 1, .int .i64 n, .string s] 55)).alloc (.cells #[.int .u8 1] 5)) w.heap.size 55 #[.int .i64 1, .int .i64 n, .string s] := (Blk.new w 55 _).alloc _
  have HB := Lib.hid hbB
  clear hbB
  obtain ⟨z, hz⟩ : ∃ z : Nat, z = (n + 9223372036854775808).toNat := ⟨_, rfl⟩
  have hzz : IntKind.u64.wrap (IntKind.u64.wrap n + 9223372036854775808) = (z : Int) := by simp only [IntKind.wrap_u64]; omega
  have hz64 : z < 2 ^ 64 := by omega
  rw [← hz]
  obtain ⟨l1, hl1⟩ : ∃ l1, l1 = l ++ [1] := ⟨_, rfl⟩
  rw [← List.append_assoc, ← hl1]
  have HL1 := Lib.hid hl1
  have hll : l1.length ≤ 1000001 := by rw [hl1]; simp; omega
  clear hz hl1
  go_enter Try.func72/-f-/, Try.ntmps72/-f-/
  go_upto_region 4 with (at_builtin; refine wpList_append_src _ rfl _ _ 101 rfl base 5 i0 (.int .u8 0) 1 1 Try.underlying101/-t-/ hi hz0 hz1 hz2 rfl (by decide) v l.length _ rfl (World.ownsRow.alloc (World.ownsRow.alloc HROW.out _) _) (some ⟨w.heap.size + 1, 0, none⟩) 1 1 [.int .u8 1] rfl (by first | exact Src.one _ _ _ rfl | (have := Src.one (w.alloc (.cells #[.int .i64 1, .int .i64 n, .string s] 55)) (.int .u8 1) 5 rfl; simpa using this)) (by unfold maxLen; omega) (by omega) (by simp; omega) ?_; intro v2 w2 hown2 hgr2 hnew2; have HO2 := Lib.hid hown2; have HG2 := Lib.hid hgr2; have B2 := Lib.hid (blk_grown HB.out hgr2 HNE.out); have q0 := B2.out.cell 0; have q1 := B2.out.cell 1; simp at q0 q1; have hsz2 := hgr2.size; simp at hsz2; clear hown2 hgr2 hnew2)
  have hrow2 : Row8 w2 base v2 l1 := row8_step (x := 1) HO2.out rfl rfl rfl HL1.out
  have hbel2 : Below base w w2 := ((((Below.refl base w).alloc hb _).alloc (by simp; omega) _).grown HG2.out (by simp; omega) (fun g h => (HROW.out.lt g h).1))
  have HROW2 := Lib.hid hrow2
  have HBEL2 := Lib.hid hbel2
  have hb2 : base ≤ w2.heap.size := by omega
  clear hrow2 hbel2 hl HO2 HG2 HROW HNE HB
  go_wp2
  go_loopw [0, 28] (fun v i wr => ∃ j : Nat, j ≤ 8 ∧ i = .int .i64 j ∧ Below base w wr ∧ Row8 wr base v (l1 ++ (be8 z).take j)) (fun _ i _ => 8 - (intOf i).toNat)
  case atStart => exact ⟨0, by omega, rfl, HBEL2.out, by simpa using HROW2.out⟩
  case round =>
    obtain ⟨j, hj, rfl, hbl, hrow⟩ := hrel
    have HROW2 := Lib.hid hrow
    have hbs : base ≤ wr.heap.size := Nat.le_trans hb hbl.size
    clear hrow
    have hj8 : j = 0 ∨ j = 1 ∨ j = 2 ∨ j = 3 ∨ j = 4 ∨ j = 5 ∨ j = 6 ∨ j = 7 ∨ j = 8 := by omega
    rcases hj8 with rfl | rfl | rfl | rfl | rfl | rfl | rfl | rfl | rfl
    · go_wp2_with (at_builtin; refine wpList_append_src _ rfl _ _ 101 rfl base 5 i0 (.int .u8 0) 1 1 Try.underlying101/-t-/ hi hz0 hz1 hz2 rfl (by decide) u0 (l1 ++ (be8 z).take 0).length _ rfl (World.ownsRow.alloc HROW2.out _) (some ⟨wr.heap.size, 0, none⟩) 1 1 [_] rfl (Src.one _ _ _ rfl) (by unfold maxLen; simp [be8]; omega) (by simp [be8]; omega) (by simp; omega) ?_; intro v' w3 hown3 hgr3 hnew3; have HO3 := Lib.hid hown3; have HG3 := Lib.hid hgr3; clear hown3 hgr3 hnew3)
      go_roundw
      case rel => exact ⟨1, by omega, by go_num, (hbl.alloc hbs _).grown HG3.out (by simp; omega) (fun g h => (HROW2.out.lt g h).1), row8_step (x := UInt8.ofNat (z / 2 ^ (56 - 8 * 0))) HO3.out rfl rfl (by rw [UInt8.toNat_ofNat']; omega) (by rw [List.append_assoc]; rfl)⟩
      case measure => simp [intOf]
    · go_wp2_with (at_builtin; refine wpList_append_src _ rfl _ _ 101 rfl base 5 i0 (.int .u8 0) 1 1 Try.underlying101/-t-/ hi hz0 hz1 hz2 rfl (by decide) u0 (l1 ++ (be8 z).take 1).length _ rfl (World.ownsRow.alloc HROW2.out _) (some ⟨wr.heap.size, 0, none⟩) 1 1 [_] rfl (Src.one _ _ _ rfl) (by unfold maxLen; simp [be8]; omega) (by simp [be8]; omega) (by simp; omega) ?_; intro v' w3 hown3 hgr3 hnew3; have HO3 := Lib.hid hown3; have HG3 := Lib.hid hgr3; clear hown3 hgr3 hnew3)
      go_roundw
      case rel => exact ⟨2, by omega, by go_num, (hbl.alloc hbs _).grown HG3.out (by simp; omega) (fun g h => (HROW2.out.lt g h).1), row8_step (x := UInt8.ofNat (z / 2 ^ (56 - 8 * 1))) HO3.out rfl rfl (by rw [UInt8.toNat_ofNat']; omega) (by rw [List.append_assoc]; rfl)⟩
      case measure => simp [intOf]
    · go_wp2_with (at_builtin; refine wpList_append_src _ rfl _ _ 101 rfl base 5 i0 (.int .u8 0) 1 1 Try.underlying101/-t-/ hi hz0 hz1 hz2 rfl (by decide) u0 (l1 ++ (be8 z).take 2).length _ rfl (World.ownsRow.alloc HROW2.out _) (some ⟨wr.heap.size, 0, none⟩) 1 1 [_] rfl (Src.one _ _ _ rfl) (by unfold maxLen; simp [be8]; omega) (by simp [be8]; omega) (by simp; omega) ?_; intro v' w3 hown3 hgr3 hnew3; have HO3 := Lib.hid hown3; have HG3 := Lib.hid hgr3; clear hown3 hgr3 hnew3)
      go_roundw
      case rel => exact ⟨3, by omega, by go_num, (hbl.alloc hbs _).grown HG3.out (by simp; omega) (fun g h => (HROW2.out.lt g h).1), row8_step (x := UInt8.ofNat (z / 2 ^ (56 - 8 * 2))) HO3.out rfl rfl (by rw [UInt8.toNat_ofNat']; omega) (by rw [List.append_assoc]; rfl)⟩
      case measure => simp [intOf]
    · go_wp2_with (at_builtin; refine wpList_append_src _ rfl _ _ 101 rfl base 5 i0 (.int .u8 0) 1 1 Try.underlying101/-t-/ hi hz0 hz1 hz2 rfl (by decide) u0 (l1 ++ (be8 z).take 3).length _ rfl (World.ownsRow.alloc HROW2.out _) (some ⟨wr.heap.size, 0, none⟩) 1 1 [_] rfl (Src.one _ _ _ rfl) (by unfold maxLen; simp [be8]; omega) (by simp [be8]; omega) (by simp; omega) ?_; intro v' w3 hown3 hgr3 hnew3; have HO3 := Lib.hid hown3; have HG3 := Lib.hid hgr3; clear hown3 hgr3 hnew3)
      go_roundw
      case rel => exact ⟨4, by omega, by go_num, (hbl.alloc hbs _).grown HG3.out (by simp; omega) (fun g h => (HROW2.out.lt g h).1), row8_step (x := UInt8.ofNat (z / 2 ^ (56 - 8 * 3))) HO3.out rfl rfl (by rw [UInt8.toNat_ofNat']; omega) (by rw [List.append_assoc]; rfl)⟩
      case measure => simp [intOf]
    · go_wp2_with (at_builtin; refine wpList_append_src _ rfl _ _ 101 rfl base 5 i0 (.int .u8 0) 1 1 Try.underlying101/-t-/ hi hz0 hz1 hz2 rfl (by decide) u0 (l1 ++ (be8 z).take 4).length _ rfl (World.ownsRow.alloc HROW2.out _) (some ⟨wr.heap.size, 0, none⟩) 1 1 [_] rfl (Src.one _ _ _ rfl) (by unfold maxLen; simp [be8]; omega) (by simp [be8]; omega) (by simp; omega) ?_; intro v' w3 hown3 hgr3 hnew3; have HO3 := Lib.hid hown3; have HG3 := Lib.hid hgr3; clear hown3 hgr3 hnew3)
      go_roundw
      case rel => exact ⟨5, by omega, by go_num, (hbl.alloc hbs _).grown HG3.out (by simp; omega) (fun g h => (HROW2.out.lt g h).1), row8_step (x := UInt8.ofNat (z / 2 ^ (56 - 8 * 4))) HO3.out rfl rfl (by rw [UInt8.toNat_ofNat']; omega) (by rw [List.append_assoc]; rfl)⟩
      case measure => simp [intOf]
    · go_wp2_with (at_builtin; refine wpList_append_src _ rfl _ _ 101 rfl base 5 i0 (.int .u8 0) 1 1 Try.underlying101/-t-/ hi hz0 hz1 hz2 rfl (by decide) u0 (l1 ++ (be8 z).take 5).length _ rfl (World.ownsRow.alloc HROW2.out _) (some ⟨wr.heap.size, 0, none⟩) 1 1 [_] rfl (Src.one _ _ _ rfl) (by unfold maxLen; simp [be8]; omega) (by simp [be8]; omega) (by simp; omega) ?_; intro v' w3 hown3 hgr3 hnew3; have HO3 := Lib.hid hown3; have HG3 := Lib.hid hgr3; clear hown3 hgr3 hnew3)
      go_roundw
      case rel => exact ⟨6, by omega, by go_num, (hbl.alloc hbs _).grown HG3.out (by simp; omega) (fun g h => (HROW2.out.lt g h).1), row8_step (x := UInt8.ofNat (z / 2 ^ (56 - 8 * 5))) HO3.out rfl rfl (by rw [UInt8.toNat_ofNat']; omega) (by rw [List.append_assoc]; rfl)⟩
      case measure => simp [intOf]
    · go_wp2_with (at_builtin; refine wpList_append_src _ rfl _ _ 101 rfl base 5 i0 (.int .u8 0) 1 1 Try.underlying101/-t-/ hi hz0 hz1 hz2 rfl (by decide) u0 (l1 ++ (be8 z).take 6).length _ rfl (World.ownsRow.alloc HROW2.out _) (some ⟨wr.heap.size, 0, none⟩) 1 1 [_] rfl (Src.one _ _ _ rfl) (by unfold maxLen; simp [be8]; omega) (by simp [be8]; omega) (by simp; omega) ?_; intro v' w3 hown3 hgr3 hnew3; have HO3 := Lib.hid hown3; have HG3 := Lib.hid hgr3; clear hown3 hgr3 hnew3)
      go_roundw
      case rel => exact ⟨7, by omega, by go_num, (hbl.alloc hbs _).grown HG3.out (by simp; omega) (fun g h => (HROW2.out.lt g h).1), row8_step (x := UInt8.ofNat (z / 2 ^ (56 - 8 * 6))) HO3.out rfl rfl (by rw [UInt8.toNat_ofNat']; omega) (by rw [List.append_assoc]; rfl)⟩
      case measure => simp [intOf]
    · go_wp2_with (at_builtin; refine wpList_append_src _ rfl _ _ 101 rfl base 5 i0 (.int .u8 0) 1 1 Try.underlying101/-t-/ hi hz0 hz1 hz2 rfl (by decide) u0 (l1 ++ (be8 z).take 7).length _ rfl (World.ownsRow.alloc HROW2.out _) (some ⟨wr.heap.size, 0, none⟩) 1 1 [_] rfl (Src.one _ _ _ rfl) (by unfold maxLen; simp [be8]; omega) (by simp [be8]; omega) (by simp; omega) ?_; intro v' w3 hown3 hgr3 hnew3; have HO3 := Lib.hid hown3; have HG3 := Lib.hid hgr3; clear hown3 hgr3 hnew3)
      go_roundw
      case rel => exact ⟨8, by omega, by go_num, (hbl.alloc hbs _).grown HG3.out (by simp; omega) (fun g h => (HROW2.out.lt g h).1), row8_step (x := UInt8.ofNat (z / 2 ^ (56 - 8 * 7))) HO3.out rfl rfl (by rw [UInt8.toNat_ofNat']; omega) (by rw [List.append_assoc]; rfl)⟩
      case measure => simp [intOf]
    · rw [show ((8 : Nat) : Int) = 8 from rfl]
      go_wp2
      go_ret
      exact ⟨u0, rfl, HROW2.out, hbl⟩
set_option maxRecDepth 100000 in
set_option maxHeartbeats 8000000 in
theorem appendKey_2 (v : Value) (l : List UInt8) (base : Nat) (n : Int) (s : ByteArray) (w : World) (hrow : Row8 w base v l) (hs : s.size ≤ 1000000) (hb : base ≤ w.heap.size) (hl : l.length ≤ 1000000) :
    Calls Try.prog 72/-f-/ #[v, .agg #[.int .i64 2, .int .i64 n, .string s]] w fun e w' => ∃ v', e = .returned v' ∧ Row8 w' base v' (l ++ ([2] ++ esc s.data.toList ++ [0, 1])) ∧ Below base w w' := by
  obtain ⟨i0, hi, hz0, hz1, hz2⟩ := info_parts info5
  have HROW := Lib.hid hrow
  clear hrow
  have HNE := Lib.hid (show v.ownBlock ≠ some w.heap.size from fun h => by have := (HROW.out.lt _ h).2; omega)
  have hbB : Blk ((w.alloc (.cells #[.int .i64 2, .int .i64 n, .string s] 55)).alloc (.cells #[.int .u8 2] 5)) w.heap.size 55 #[.int .i64 2, .int .i64 n, .string s] := (Blk.new w 55 _).alloc _
  have HB := Lib.hid hbB
  clear hbB
  obtain ⟨l1, hl1⟩ : ∃ l1, l1 = l ++ [2] := ⟨_, rfl⟩
  rw [show l ++ ([2] ++ esc s.data.toList ++ [0, 1]) = l1 ++ esc s.data.toList ++ [0, 1] from by rw [hl1]; simp]
  have HL1 := Lib.hid hl1
  have hll : l1.length ≤ 1000001 := by rw [hl1]; simp; omega
  clear hl1
  go_enter Try.func72/-f-/, Try.ntmps72/-f-/
  go_upto_region 4 with (at_builtin; refine wpList_append_src _ rfl _ _ 101 rfl base 5 i0 (.int .u8 0) 1 1 Try.underlying101/-t-/ hi hz0 hz1 hz2 rfl (by decide) v l.length _ rfl (World.ownsRow.alloc (World.ownsRow.alloc HROW.out _) _) (some ⟨w.heap.size + 1, 0, none⟩) 1 1 [.int .u8 2] rfl (by first | exact Src.one _ _ _ rfl | (have := Src.one (w.alloc (.cells #[.int .i64 2, .int .i64 n, .string s] 55)) (.int .u8 2) 5 rfl; simpa using this)) (by unfold maxLen; omega) (by omega) (by simp; omega) ?_; intro v2 w2 hown2 hgr2 hnew2; have HO2 := Lib.hid hown2; have HG2 := Lib.hid hgr2; have HN2 := Lib.hid hnew2; have B2 := Lib.hid (blk_grown HB.out hgr2 HNE.out); have q0 := B2.out.cell 0; have q2 := B2.out.cell 2; simp at q0 q2; have hsz2 := hgr2.size; simp at hsz2; clear hown2 hgr2 hnew2)
  have hrow2 : Row8 w2 base v2 l1 := row8_step (x := 2) HO2.out rfl rfl rfl HL1.out
  have hbel2 : Below base w w2 := ((((Below.refl base w).alloc hb _).alloc (by simp; omega) _).grown HG2.out (by simp; omega) (fun g h => (HROW.out.lt g h).1))
  have HROW2 := Lib.hid hrow2
  have HBEL2 := Lib.hid hbel2
  have HNE2 := Lib.hid (show v2.ownBlock ≠ some w.heap.size from fun h => by
    rcases HN2.out with h2 | h2
    · exact HNE.out (h2 ▸ h)
    · rw [h2] at h; have := Option.some.inj h; simp at this; omega)
  have hb2 : base ≤ w2.heap.size := by omega
  clear hrow2 hbel2 hl HO2 HG2 HROW HNE HB HN2
  go_wp2
  go_loopw [0, 46] (fun v i wr => ∃ j : Nat, j ≤ s.size ∧ i = .int .i64 j ∧ Below base w wr ∧ Row8 wr base v (l1 ++ esc (s.data.toList.take j)) ∧ Blk wr w.heap.size 55 #[.int .i64 2, .int .i64 n, .string s] ∧ v.ownBlock ≠ some w.heap.size) (fun _ i _ => s.size - (intOf i).toNat)
  case atStart => exact ⟨0, by omega, rfl, HBEL2.out, by simpa [esc] using HROW2.out, B2.out, HNE2.out⟩
  case round =>
    obtain ⟨j, hj, rfl, hbl, hrow, hblk, hne⟩ := hrel
    have HROW3 := Lib.hid hrow
    have hbs : base ≤ wr.heap.size := Nat.le_trans hb hbl.size
    have hws : w.heap.size < wr.heap.size := hblk.lt
    have HNE3 := Lib.hid hne
    have el := esc_len (s.data.toList.take j)
    have el2 : (s.data.toList.take j).length ≤ j := List.length_take_le _ _
    have hlen : (l1 ++ esc (s.data.toList.take j)).length ≤ 3100000 := by rw [List.length_append]; omega
    have c2 := hblk.cell 2
    simp at c2
    have HBK := Lib.hid hblk
    clear hrow hne hblk q0 q2 el el2
    by_cases hlt : j < s.size
    · have HT := Lib.hid (show esc (s.data.toList.take (j + 1)) = esc (s.data.toList.take j) ++ if s[j] = 0 then [0, 255] else [s[j]] from by
        rw [List.take_succ_eq_append_getElem (by simpa using hlt), esc_snoc]; rfl)
      obtain ⟨L, hL⟩ : ∃ L, L = l1 ++ esc (s.data.toList.take j) := ⟨_, rfl⟩
      have HT2 := Lib.hid (show l1 ++ esc (s.data.toList.take (j + 1)) = L ++ if s[j] = 0 then [0, 255] else [s[j]] from by rw [HT.out, ← List.append_assoc, hL])
      rw [← hL] at HROW3 hlen
      clear hL HT
      by_cases h0 : s[j] = 0
      · have hc0 : ((s[j].toNat : Int) == 0) = true := by rw [h0]; rfl
        have HT3 := Lib.hid (HT2.out.trans (by rw [if_pos h0] : _ = L ++ [0, 255]))
        have HZ := Lib.hid h0
        clear h0
        go_upto_region 16 with (at_builtin; refine wpList_append_src _ rfl _ _ 101 rfl base 5 i0 (.int .u8 0) 1 1 Try.underlying101/-t-/ hi hz0 hz1 hz2 rfl (by decide) u0 L.length _ rfl (World.ownsRow.alloc HROW3.out _) (some ⟨wr.heap.size, 0, none⟩) 1 1 [_] rfl (Src.one _ _ _ rfl) (by unfold maxLen; omega) (by omega) (by simp; omega) ?_; intro v3 w3 hown3 hgr3 hnew3; have HO3 := Lib.hid hown3; have HG3 := Lib.hid hgr3; have HN3 := Lib.hid hnew3; have B3 := Lib.hid (blk_grown (HBK.out.alloc _) hgr3 HNE3.out); have r2 := B3.out.cell 2; simp at r2; have hsz3 := hgr3.size; simp at hsz3; clear hown3 hgr3 hnew3)
        go_wp2_with (at_builtin; refine wpList_append_src _ rfl _ _ 101 rfl base 5 i0 (.int .u8 0) 1 1 Try.underlying101/-t-/ hi hz0 hz1 hz2 rfl (by decide) v3 (L.length + 1) _ rfl (World.ownsRow.alloc HO3.out _) (some ⟨w3.heap.size, 0, none⟩) 1 1 [_] rfl (Src.one _ _ _ rfl) (by unfold maxLen; omega) (by omega) (by simp; omega) ?_; intro v4 w4 hown4 hgr4 hnew4; have HO4 := Lib.hid hown4; have HG4 := Lib.hid hgr4; have HN4 := Lib.hid hnew4; clear hown4 hgr4 hnew4)
        go_roundw
        case rel =>
          have h3 : Row8 w3 base v3 (L ++ [0]) := row8_step (x := s[j]) HO3.out rfl rfl rfl (by rw [HZ.out])
          have h4 : Row8 w4 base v4 ((L ++ [0]) ++ [255]) := row8_step (x := 255) (l := L ++ [0]) HO4.out (by rw [cells8_append]; simp [cells8, HZ.out]) (by simp) rfl rfl
          have hb3 : Below base w w3 := (hbl.alloc hbs _).grown HG3.out (by simp; omega) (fun g h => (HROW3.out.lt g h).1)
          have hb4 : Below base w w4 := (hb3.alloc (by omega) _).grown HG4.out (by simp; omega) (fun g h => (h3.lt g h).1)
          have hne3 : v3.ownBlock ≠ some w.heap.size := fun h => by
            rcases HN3.out with h2 | h2
            · exact HNE3.out (h2 ▸ h)
            · rw [h2] at h; have := Option.some.inj h; simp at this; omega
          refine ⟨j + 1, by omega, by go_num, hb4, by rw [HT3.out]; simpa using h4, blk_grown (B3.out.alloc _) HG4.out hne3, fun h => ?_⟩
          rcases HN4.out with h2 | h2
          · exact hne3 (h2 ▸ h)
          · rw [h2] at h; have := Option.some.inj h; simp at this; omega
        case measure => simp [intOf]; omega
      · have hc0 : ((s[j].toNat : Int) == 0) = false := beq_eq_false_iff_ne.2 (fun h => h0 (UInt8.toNat_inj.1 (by simpa using h)))
        have HT3 := Lib.hid (HT2.out.trans (by rw [if_neg h0] : _ = L ++ [s[j]]))
        clear h0
        go_upto_region 16 with (at_builtin; refine wpList_append_src _ rfl _ _ 101 rfl base 5 i0 (.int .u8 0) 1 1 Try.underlying101/-t-/ hi hz0 hz1 hz2 rfl (by decide) u0 L.length _ rfl (World.ownsRow.alloc HROW3.out _) (some ⟨wr.heap.size, 0, none⟩) 1 1 [_] rfl (Src.one _ _ _ rfl) (by unfold maxLen; omega) (by omega) (by simp; omega) ?_; intro v3 w3 hown3 hgr3 hnew3; have HO3 := Lib.hid hown3; have HG3 := Lib.hid hgr3; have HN3 := Lib.hid hnew3; have B3 := Lib.hid (blk_grown (HBK.out.alloc _) hgr3 HNE3.out); have r2 := B3.out.cell 2; simp at r2; have hsz3 := hgr3.size; simp at hsz3; clear hown3 hgr3 hnew3)
        go_wp2
        go_roundw
        case rel =>
          have h3 : Row8 w3 base v3 (L ++ [s[j]]) := row8_step (x := s[j]) HO3.out rfl rfl rfl rfl
          have hb3 : Below base w w3 := (hbl.alloc hbs _).grown HG3.out (by simp; omega) (fun g h => (HROW3.out.lt g h).1)
          have hne3 : v3.ownBlock ≠ some w.heap.size := fun h => by
            rcases HN3.out with h2 | h2
            · exact HNE3.out (h2 ▸ h)
            · rw [h2] at h; have := Option.some.inj h; simp at this; omega
          exact ⟨j + 1, by omega, by go_num, hb3, by rw [HT3.out]; exact h3, B3.out, hne3⟩
        case measure => simp [intOf]; omega
    · have hjs : j = s.size := by omega
      subst hjs
      rw [List.take_of_length_le (by simp)] at HROW3 hlen
      obtain ⟨L, hL⟩ : ∃ L, L = l1 ++ esc s.data.toList := ⟨_, rfl⟩
      rw [← hL] at HROW3 hlen
      have HL := Lib.hid hL
      clear hL
      go_wp2_with (at_builtin; refine wpList_append_src _ rfl _ _ 101 rfl base 5 i0 (.int .u8 0) 1 1 Try.underlying101/-t-/ hi hz0 hz1 hz2 rfl (by decide) u0 L.length _ rfl (World.ownsRow.alloc HROW3.out _) (some ⟨wr.heap.size, 0, none⟩) 2 2 [.int .u8 0, .int .u8 1] rfl (Src.two wr (.int .u8 0) (.int .u8 1) 5 rfl rfl) (by unfold maxLen; omega) (by omega) (by simp; omega) ?_; intro v3 w3 hown3 hgr3 hnew3; have HO3 := Lib.hid hown3; have HG3 := Lib.hid hgr3; clear hown3 hgr3 hnew3)
      go_ret
      refine ⟨v3, rfl, ?_, (hbl.alloc hbs _).grown HG3.out (by simp; omega) (fun g h => (HROW3.out.lt g h).1)⟩
      have h3 := HO3.out
      rw [← HL.out]
      unfold Row8
      rw [cells8_append, List.length_append]
      exact h3
set_option maxRecDepth 100000 in
set_option maxHeartbeats 8000000 in
theorem appendKey_3 (v : Value) (l : List UInt8) (base : Nat) (n : Int) (s : ByteArray) (w : World) (hrow : Row8 w base v l) (hn : n = 0 ∨ n = 1) (hb : base ≤ w.heap.size) (hl : l.length ≤ 1000000) :
    Calls Try.prog 72/-f-/ #[v, .agg #[.int .i64 3, .int .i64 n, .string s]] w fun e w' => ∃ v', e = .returned v' ∧ Row8 w' base v' (l ++ [3, UInt8.ofNat n.toNat]) ∧ Below base w w' := by
  obtain ⟨i0, hi, hz0, hz1, hz2⟩ := info_parts info5
  have HROW := Lib.hid hrow
  clear hrow
  have HNE := Lib.hid (show v.ownBlock ≠ some w.heap.size from fun h => by have := (HROW.out.lt _ h).2; omega)
  have hbB : Blk ((w.alloc (.cells #[.int .i64 3, .int .i64 n, .string s] 55)).alloc (.cells #[.int .u8 3] 5)) w.heap.size 55 #[.int .i64 3, .int .i64 n, .string s] := (Blk.new w 55 _).alloc _
  have HB := Lib.hid hbB
  clear hbB
  obtain ⟨L, hL⟩ : ∃ L, L = l ++ [3] := ⟨_, rfl⟩
  rw [show l ++ [3, UInt8.ofNat n.toNat] = L ++ [UInt8.ofNat n.toNat] from by rw [hL]; simp]
  have HL := Lib.hid hL
  have hll : L.length ≤ 1000001 := by rw [hL]; simp; omega
  clear hL
  obtain ⟨m, hm, hm2⟩ : ∃ m : Nat, n = m ∧ m < 2 := ⟨n.toNat, by omega, by omega⟩
  subst hm
  clear hn
  go_enter Try.func72/-f-/, Try.ntmps72/-f-/
  go_upto_region 4 with (at_builtin; refine wpList_append_src _ rfl _ _ 101 rfl base 5 i0 (.int .u8 0) 1 1 Try.underlying101/-t-/ hi hz0 hz1 hz2 rfl (by decide) v l.length _ rfl (World.ownsRow.alloc (World.ownsRow.alloc HROW.out _) _) (some ⟨w.heap.size + 1, 0, none⟩) 1 1 [.int .u8 3] rfl (by first | exact Src.one _ _ _ rfl | (have := Src.one (w.alloc (.cells #[.int .i64 3, .int .i64 m, .string s] 55)) (.int .u8 3) 5 rfl; simpa using this)) (by unfold maxLen; omega) (by omega) (by simp; omega) ?_; intro v2 w2 hown2 hgr2 hnew2; have HO2 := Lib.hid hown2; have HG2 := Lib.hid hgr2; have HN2 := Lib.hid hnew2; have B2 := Lib.hid (blk_grown HB.out hgr2 HNE.out); have q0 := B2.out.cell 0; have q1 := B2.out.cell 1; simp at q0 q1; have hsz2 := hgr2.size; simp at hsz2; clear hown2 hgr2 hnew2)
  have hrow2 : Row8 w2 base v2 L := row8_step (x := 3) HO2.out rfl rfl rfl HL.out
  have hbel2 : Below base w w2 := ((((Below.refl base w).alloc hb _).alloc (by simp; omega) _).grown HG2.out (by simp; omega) (fun g h => (HROW.out.lt g h).1))
  have HROW2 := Lib.hid hrow2
  have HBEL2 := Lib.hid hbel2
  clear hrow2 hbel2
  go_wp2_with (at_builtin; refine wpList_append_src _ rfl _ _ 101 rfl base 5 i0 (.int .u8 0) 1 1 Try.underlying101/-t-/ hi hz0 hz1 hz2 rfl (by decide) v2 L.length _ rfl (World.ownsRow.alloc HROW2.out _) (some ⟨w2.heap.size, 0, none⟩) 1 1 [_] rfl (Src.one _ _ _ rfl) (by unfold maxLen; omega) (by omega) (by simp; omega) ?_; intro v3 w3 hown3 hgr3 hnew3; have HO3 := Lib.hid hown3; have HG3 := Lib.hid hgr3; clear hown3 hgr3 hnew3)
  go_ret
  exact ⟨v3, rfl, row8_step (x := UInt8.ofNat (m : Int).toNat) HO3.out rfl rfl (by rw [UInt8.toNat_ofNat']; simp; omega) rfl, (HBEL2.out.alloc (by omega) _).grown HG3.out (by simp; omega) (fun g h => (HROW2.out.lt g h).1)⟩
/-- A right value's key, laid behind what there is. -/
theorem appendKey_any (v : Value) (l : List UInt8) (base : Nat) (x : Val) (w : World) (hrow : Row8 w base v l) (hr : rightB x.k x.n x.s = true) (hf : FitV x) (hs : x.s.size ≤ 1000000) (hb : base ≤ w.heap.size) (hl : l.length ≤ 1000000) :
    Calls Try.prog 72/-f-/ #[v, .agg #[.int .i64 x.k, .int .i64 x.n, .string x.s]] w fun e w' => ∃ v', e = .returned v' ∧ Row8 w' base v' (l ++ keyOf x) ∧ Below base w w' := by
  obtain ⟨k, n, s⟩ := x
  simp only at hr hs ⊢
  have hn := hf.n
  simp only at hn
  by_cases h1 : k = 1
  · subst h1
    have := appendKey_1 v l base n s w hrow hn.1 hn.2 hb hl
    simpa [keyOf] using this
  · by_cases h2 : k = 2
    · subst h2
      have := appendKey_2 v l base n s w hrow hs hb hl
      simpa [keyOf] using this
    · by_cases h3 : k = 3
      · subst h3
        rw [rightB_3] at hr
        have hn2 : n = 0 ∨ n = 1 := by simp at hr; exact hr.1
        have := appendKey_3 v l base n s w hrow hn2 hb hl
        simpa [keyOf] using this
      · rw [rightB_no k n s h1 h2 h3] at hr
        cases hr
end Go.Proofs.Ytddejkmfffeikaa

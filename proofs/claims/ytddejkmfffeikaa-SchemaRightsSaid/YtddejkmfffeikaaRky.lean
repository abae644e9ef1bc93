/- Contracts of the document's Key of one right value, and of a row. -/
import Derived.Test.YtddejkmfffeikaaUnk
namespace Go.Proofs.Ytddejkmfffeikaa
open Go.ChangeShapes Go.WideShapes Go.ChangeAt Go.RowKit
theorem ofNat_mod (x : Nat) : UInt8.ofNat (x % 256) = UInt8.ofNat x := UInt8.toNat_inj.1 (by rw [UInt8.toNat_ofNat', UInt8.toNat_ofNat']; omega)
theorem be8_drop (z j : Nat) (hj : j < 8) : (be8 z).drop (8 - (j + 1)) = UInt8.ofNat (z / 256 ^ j % 256) :: (be8 z).drop (8 - j) := by
  rw [ofNat_mod]
  have h : j = 0 ∨ j = 1 ∨ j = 2 ∨ j = 3 ∨ j = 4 ∨ j = 5 ∨ j = 6 ∨ j = 7 := by omega
  rcases h with rfl | rfl | rfl | rfl | rfl | rfl | rfl | rfl <;> rfl
theorem app_mk (a b : List UInt8) : (⟨a.toArray⟩ : ByteArray) ++ ⟨b.toArray⟩ = ⟨(a ++ b).toArray⟩ := ByteArray.ext (by rw [ByteArray.data_append]; simp)
theorem conv_lit1 (W : World) (z : Int) (h0 : 0 ≤ z) (h1 : z < 256) : (convert 101 9 (.slice (some ⟨W.heap.size, 0, none⟩) 1 1)).run Try.prog (W.alloc (.cells #[.int .u8 z] 5)) = .ok (.string ⟨#[UInt8.ofNat z.toNat]⟩) (W.alloc (.cells #[.int .u8 z] 5)) := by
  refine run_convert_bytes_back (P := Try.prog) _ 101 9 5 ⟨W.heap.size, 0, none⟩ 1 [UInt8.ofNat z.toNat] Try.underlying101/-t-/ Try.underlying5/-t-/ Try.underlying9/-t-/ (fun j hj => ?_)
  obtain rfl : j = 0 := by simpa using hj
  have e : ((UInt8.ofNat z.toNat).toNat : Int) = z := by rw [UInt8.toNat_ofNat']; omega
  rw [List.getElem_cons_zero, e]
  first | exact (Blk.new W 5 #[.int .u8 z]).cell 0 | trace_state
theorem conv_lit2 (W : World) (y z : Int) (hy : 0 ≤ y) (hy1 : y < 256) (h0 : 0 ≤ z) (h1 : z < 256) : (convert 101 9 (.slice (some ⟨W.heap.size, 0, none⟩) 2 2)).run Try.prog (W.alloc (.cells #[.int .u8 y, .int .u8 z] 5)) = .ok (.string ⟨#[UInt8.ofNat y.toNat, UInt8.ofNat z.toNat]⟩) (W.alloc (.cells #[.int .u8 y, .int .u8 z] 5)) := by
  refine run_convert_bytes_back (P := Try.prog) _ 101 9 5 ⟨W.heap.size, 0, none⟩ 2 [UInt8.ofNat y.toNat, UInt8.ofNat z.toNat] Try.underlying101/-t-/ Try.underlying5/-t-/ Try.underlying9/-t-/ (fun j hj => ?_)
  have e : ((UInt8.ofNat z.toNat).toNat : Int) = z := by rw [UInt8.toNat_ofNat']; omega
  have e2 : ((UInt8.ofNat y.toNat).toNat : Int) = y := by rw [UInt8.toNat_ofNat']; omega
  have hj2 : j = 0 ∨ j = 1 := by simp at hj; omega
  rcases hj2 with rfl | rfl
  · rw [List.getElem_cons_zero, e2]; first | exact (Blk.new W 5 #[.int .u8 y, .int .u8 z]).cell 0 | trace_state
  · rw [List.getElem_cons_succ, List.getElem_cons_zero, e]; first | exact (Blk.new W 5 #[.int .u8 y, .int .u8 z]).cell 1 | trace_state
set_option maxRecDepth 100000 in
set_option maxHeartbeats 8000000 in
theorem refkey_3 (n : Int) (s : ByteArray) (w : World) (hn : n = 0 ∨ n = 1) :
    Calls Try.prog 63/-f-/ #[.agg #[.int .i64 3, .int .i64 n, .string s]] w fun e w' => e = .returned (.string ⟨#[3, UInt8.ofNat n.toNat]⟩) ∧ Below w.heap.size w w' := by
  have hw : IntKind.u8.wrap n = n := by rcases hn with rfl | rfl <;> rfl
  have C := conv_lit2 (w.alloc (.cells #[.int .i64 3, .int .i64 n, .string s] 55)) 3 n (by omega) (by omega) (by omega) (by omega)
  simp at C
  go_enter Try.func63/-f-/, Try.ntmps63/-f-/
  go_wp2
  go_ret
  exact ⟨rfl, ((Below.refl _ _).alloc (Nat.le_refl _) _).alloc (by simp) _⟩
set_option maxRecDepth 100000 in
set_option maxHeartbeats 8000000 in
theorem refkey_1 (n : Int) (s : ByteArray) (w : World) (hn1 : -9223372036854775808 ≤ n) (hn2 : n ≤ 9223372036854775807) :
    Calls Try.prog 63/-f-/ #[.agg #[.int .i64 1, .int .i64 n, .string s]] w fun e w' => e = .returned (.string ⟨([1] ++ be8 (n + 9223372036854775808).toNat).toArray⟩) ∧ Below w.heap.size w w' := by
  obtain ⟨z, hz⟩ : ∃ z : Nat, z = (n + 9223372036854775808).toNat := ⟨_, rfl⟩
  have hzz : IntKind.u64.wrap (IntKind.u64.wrap n + 9223372036854775808) = (z : Int) := by simp only [IntKind.wrap_u64]; omega
  have hz64 : z < 2 ^ 64 := by omega
  rw [← hz]
  clear hz
  go_enter Try.func63/-f-/, Try.ntmps63/-f-/
  go_wp2
  go_loopw [3, 4, 5] (fun u v i wr => ∃ j : Nat, j ≤ 8 ∧ i = .int .i64 j ∧ u = .int .u64 (z / 256 ^ j : Nat) ∧ v = .string ⟨((be8 z).drop (8 - j)).toArray⟩ ∧ Below w.heap.size w wr) (fun _ _ i _ => 8 - (intOf i).toNat)
  case atStart => exact ⟨0, by omega, rfl, by simp, by simp [be8], (Below.refl _ _).alloc (Nat.le_refl _) _⟩
  case round =>
    obtain ⟨j, hj, rfl, rfl, rfl, hbl⟩ := hrel
    by_cases hlt : j < 8
    · generalize hU : z / 256 ^ j = U
      have HU := Lib.hid hU
      clear hU
      have C := conv_lit1 wr ((U : Int) % 256) (by omega) (by omega)
      have hsz := hbl.size
      have hl8 : (be8 z).length = 8 := be8_len z
      have HD := Lib.hid (be8_drop z j hlt)
      go_wp2
      go_roundw
      case rel =>
        refine ⟨j + 1, by omega, by go_num, ?_, ?_, hbl.alloc (by omega) _⟩
        · rw [Nat.pow_succ, ← Nat.div_div_eq_div_mul, HU.out]
          refine congrArg (Value.int .u64) ?_
          have := Nat.div_le_self z (256 ^ j)
          have hU := HU.out
          simp only [IntKind.wrap_u64]
          omega
        · rw [HD.out, HU.out]
          exact congrArg Value.string (app_mk [_] _)
      case measure => simp [intOf]; omega
    · obtain rfl : j = 8 := by omega
      have hl8 : (be8 z).length = 8 := be8_len z
      go_wp2
      go_ret
      exact ⟨congrArg (fun b => Ending.returned (Value.string b)) (app_mk [1] (be8 z)), hbl⟩
set_option maxRecDepth 100000 in
set_option maxHeartbeats 8000000 in
theorem refkey_2 (n : Int) (s : ByteArray) (w : World) (hs : s.size ≤ 1000000) :
    Calls Try.prog 63/-f-/ #[.agg #[.int .i64 2, .int .i64 n, .string s]] w fun e w' => e = .returned (.string ⟨([2] ++ esc s.data.toList ++ [0, 1]).toArray⟩) ∧ Below w.heap.size w w' := by
  obtain ⟨i0, hi, hz0, hz1, hz2⟩ := info_parts info5
  go_enter Try.func63/-f-/, Try.ntmps63/-f-/
  go_wp2
  go_loopw [6, 7] (fun v i wr => ∃ j : Nat, j ≤ s.size ∧ i = .int .i64 j ∧ Below w.heap.size w wr ∧ Row8 wr (w.heap.size + 1) v ([2] ++ esc (s.data.toList.take j)) ∧ Blk wr w.heap.size 55 #[.int .i64 2, .int .i64 n, .string s]) (fun _ i _ => s.size - (intOf i).toNat)
  case atStart =>
    refine ⟨0, by omega, rfl, ((Below.refl _ _).alloc (Nat.le_refl _) _).alloc (by simp) _, ?_, (Blk.new w 55 _).alloc _⟩
    have := World.ownsRow_lit (base := w.heap.size + 1) (size := 1) (e := 5) (w.alloc (.cells #[.int .i64 2, .int .i64 n, .string s] 55)) #[.int .u8 2] 1 (by simp) (by unfold maxLen; omega) rfl
    simpa [Row8, esc, cells8] using this
  case round =>
    obtain ⟨j, hj, rfl, hbl, hrow, hblk⟩ := hrel
    have HROW3 := Lib.hid hrow
    have hws : w.heap.size < wr.heap.size := hblk.lt
    have HNE3 := Lib.hid (show u6.ownBlock ≠ some w.heap.size from fun h => by have := (hrow.lt _ h).1; omega)
    have el := esc_len (s.data.toList.take j)
    have el2 : (s.data.toList.take j).length ≤ j := List.length_take_le _ _
    have hlen : ([2] ++ esc (s.data.toList.take j)).length ≤ 3100000 := by rw [List.length_append]; simp; omega
    have c2 := hblk.cell 2
    simp at c2
    have HBK := Lib.hid hblk
    clear hrow hblk el el2
    by_cases hlt : j < s.size
    · have HT := Lib.hid (show esc (s.data.toList.take (j + 1)) = esc (s.data.toList.take j) ++ if s[j] = 0 then [0, 255] else [s[j]] from by
        rw [List.take_succ_eq_append_getElem (by simpa using hlt), esc_snoc]; rfl)
      obtain ⟨L, hL⟩ : ∃ L, L = [2] ++ esc (s.data.toList.take j) := ⟨_, rfl⟩
      have HT2 := Lib.hid (show [2] ++ esc (s.data.toList.take (j + 1)) = L ++ if s[j] = 0 then [0, 255] else [s[j]] from by rw [HT.out, ← List.append_assoc, hL])
      rw [← hL] at HROW3 hlen
      clear hL HT
      by_cases h0 : s[j] = 0
      · have hc0 : ((s[j].toNat : Int) == 0) = true := by rw [h0]; rfl
        have HT3 := Lib.hid (HT2.out.trans (by rw [if_pos h0] : _ = L ++ [0, 255]))
        have HZ := Lib.hid h0
        clear h0
        go_upto_region 18 with (at_builtin; refine wpList_append_src _ rfl _ _ 101 rfl (w.heap.size + 1) 5 i0 (.int .u8 0) 1 1 Try.underlying101/-t-/ hi hz0 hz1 hz2 rfl (by decide) u6 L.length _ rfl (World.ownsRow.alloc HROW3.out _) (some ⟨wr.heap.size, 0, none⟩) 1 1 [_] rfl (Src.one _ _ _ rfl) (by unfold maxLen; omega) (by omega) (by simp; omega) ?_; intro v3 w3 hown3 hgr3 hnew3; have HO3 := Lib.hid hown3; have HG3 := Lib.hid hgr3; have HN3 := Lib.hid hnew3; have B3 := Lib.hid (blk_grown (HBK.out.alloc _) hgr3 HNE3.out); have r2 := B3.out.cell 2; simp at r2; have hsz3 := hgr3.size; simp at hsz3; clear hown3 hgr3 hnew3)
        go_wp2_with (at_builtin; refine wpList_append_src _ rfl _ _ 101 rfl (w.heap.size + 1) 5 i0 (.int .u8 0) 1 1 Try.underlying101/-t-/ hi hz0 hz1 hz2 rfl (by decide) v3 (L.length + 1) _ rfl (World.ownsRow.alloc HO3.out _) (some ⟨w3.heap.size, 0, none⟩) 1 1 [_] rfl (Src.one _ _ _ rfl) (by unfold maxLen; omega) (by omega) (by simp; omega) ?_; intro v4 w4 hown4 hgr4 hnew4; have HO4 := Lib.hid hown4; have HG4 := Lib.hid hgr4; have HN4 := Lib.hid hnew4; clear hown4 hgr4 hnew4)
        go_roundw
        case rel =>
          have h3 : Row8 w3 (w.heap.size + 1) v3 (L ++ [0]) := row8_step (x := s[j]) HO3.out rfl rfl rfl (by rw [HZ.out])
          have h4 : Row8 w4 (w.heap.size + 1) v4 ((L ++ [0]) ++ [255]) := row8_step (x := 255) (l := L ++ [0]) HO4.out (by rw [cells8_append]; simp [cells8, HZ.out]) (by simp) rfl rfl
          have hb3 : Below w.heap.size w w3 := (hbl.alloc hbl.size _).grown HG3.out (by simp; omega) (fun g h => by have := (HROW3.out.lt g h).1; omega)
          have hb4 : Below w.heap.size w w4 := (hb3.alloc (by omega) _).grown HG4.out (by simp; omega) (fun g h => by have := (h3.lt g h).1; omega)
          have hne3 : v3.ownBlock ≠ some w.heap.size := fun h => by have := (h3.lt _ h).1; omega
          exact ⟨j + 1, by omega, by go_num, hb4, by rw [HT3.out]; simpa using h4, blk_grown (B3.out.alloc _) HG4.out hne3⟩
        case measure => simp [intOf]; omega
      · have hc0 : ((s[j].toNat : Int) == 0) = false := beq_eq_false_iff_ne.2 (fun h => h0 (UInt8.toNat_inj.1 (by simpa using h)))
        have HT3 := Lib.hid (HT2.out.trans (by rw [if_neg h0] : _ = L ++ [s[j]]))
        clear h0
        go_upto_region 17 with (at_builtin; refine wpList_append_src _ rfl _ _ 101 rfl (w.heap.size + 1) 5 i0 (.int .u8 0) 1 1 Try.underlying101/-t-/ hi hz0 hz1 hz2 rfl (by decide) u6 L.length _ rfl (World.ownsRow.alloc HROW3.out _) (some ⟨wr.heap.size, 0, none⟩) 1 1 [_] rfl (Src.one _ _ _ rfl) (by unfold maxLen; omega) (by omega) (by simp; omega) ?_; intro v3 w3 hown3 hgr3 hnew3; have HO3 := Lib.hid hown3; have HG3 := Lib.hid hgr3; have HN3 := Lib.hid hnew3; have B3 := Lib.hid (blk_grown (HBK.out.alloc _) hgr3 HNE3.out); have r2 := B3.out.cell 2; simp at r2; have hsz3 := hgr3.size; simp at hsz3; clear hown3 hgr3 hnew3)
        go_wp2
        go_roundw
        case rel =>
          have h3 : Row8 w3 (w.heap.size + 1) v3 (L ++ [s[j]]) := row8_step (x := s[j]) HO3.out rfl rfl rfl rfl
          have hb3 : Below w.heap.size w w3 := (hbl.alloc hbl.size _).grown HG3.out (by simp; omega) (fun g h => by have := (HROW3.out.lt g h).1; omega)
          exact ⟨j + 1, by omega, by go_num, hb3, by rw [HT3.out]; exact h3, B3.out⟩
        case measure => simp [intOf]; omega
    · obtain rfl : j = s.size := by omega
      rw [List.take_of_length_le (by simp)] at HROW3 hlen
      have C := HROW3.out.conv (by simp)
      have el := esc_len s.data.toList
      have el2 : s.data.toList.length = s.size := by simp
      obtain ⟨L, hL⟩ : ∃ L, L = [2] ++ esc s.data.toList := ⟨_, rfl⟩
      rw [← hL] at C HROW3 hlen
      have HL := Lib.hid hL
      clear hL el el2
      go_wp2
      go_ret
      refine ⟨?_, hbl⟩
      have e : (2 :: (esc s.data.toList ++ [0, 1])) = L ++ [0, 1] := by rw [HL.out]; simp
      rw [e]
      exact congrArg (fun b => Ending.returned (Value.string b)) (app_mk L [0, 1])
theorem refkey_any (x : Val) (w : World) (hf : FitV x) (hr : rightB x.k x.n x.s = true) :
    Calls Try.prog 63/-f-/ #[.agg #[.int .i64 x.k, .int .i64 x.n, .string x.s]] w fun e w' => e = .returned (.string ⟨(keyOf x).toArray⟩) ∧ Below w.heap.size w w' := by
  obtain ⟨k, n, s⟩ := x
  simp only at hr ⊢
  have hn := hf.n
  simp only at hn
  by_cases h1 : k = 1
  · subst h1
    simpa [keyOf] using refkey_1 n s w hn.1 hn.2
  · by_cases h2 : k = 2
    · subst h2
      rw [rightB_2] at hr
      simp at hr
      simpa [keyOf] using refkey_2 n s w (by omega)
    · by_cases h3 : k = 3
      · subst h3
        rw [rightB_3] at hr
        simp at hr
        simpa [keyOf] using refkey_3 n s w hr.1
      · rw [rightB_no k n s h1 h2 h3] at hr
        cases hr
end Go.Proofs.Ytddejkmfffeikaa

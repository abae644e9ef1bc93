/- Contracts of the document's values and rows as bytes. -/
import Derived.Test.YtacangeamdcgdaaCrf
namespace Go.Proofs.Ytacangeamdcgdaa
open Go.ChangeShapes Go.WideShapes Go.ChangeAt Go.RowKit
theorem conv_two (w : World) (N : Nat) (e : w.heap.size = N) (z : Int) (c : UInt8) (hz : z = (c.toNat : Int)) : (convert 105 9 (.slice (some ⟨N, 0, none⟩) 2 2)).run Try.prog (w.alloc (.cells #[.int .u8 3, .int .u8 z] 5)) = .ok (.string ⟨#[3, c]⟩) (w.alloc (.cells #[.int .u8 3, .int .u8 z] 5)) := by
  subst e hz
  exact run_convert_bytes_back (P := Try.prog) _ 105 9 5 ⟨w.heap.size, 0, none⟩ 2 [3, c] Try.underlying105 Try.underlying5 Try.underlying9 (fun j hj => by
    have : j = 0 ∨ j = 1 := by simp at hj; omega
    rcases this with rfl | rfl
    · rw [addr_add, (Blk.new w 5 _).cell]; rfl
    · rw [addr_add, (Blk.new w 5 _).cell]; rfl)
set_option maxRecDepth 100000 in
set_option maxHeartbeats 8000000 in
theorem refvalue_any (x : Val) (w : World) (hf : FitV x) :
    Calls Try.prog 72/-f-/ #[.agg #[.int .i64 x.k, .int .i64 x.n, .string x.s]] w fun e w' => e = .returned (.string ⟨(valW x).toArray⟩) ∧ Below w.heap.size w w' := by
  obtain ⟨k, n, s⟩ := x
  have hn := hf.n
  have hs := hf.s
  simp only at hn hs ⊢
  obtain ⟨V, hV⟩ : ∃ V, V = valW ⟨k, n, s⟩ := ⟨_, rfl⟩
  rw [← hV]
  have HV := Lib.hid hV
  have HB0 := Lib.hid ((Below.refl w.heap.size w).alloc (Nat.le_refl _) (.cells #[.int .i64 k, .int .i64 n, .string s] 93))
  have BL := Lib.hid (Blk.new w 93 #[.int .i64 k, .int .i64 n, .string s])
  have R := Lib.hid (refright_any k n s (w.alloc (.cells #[.int .i64 k, .int .i64 n, .string s] 93)) hs)
  clear hV hf
  by_cases hr : rightB k n s = true
  · rw [hr] at R
    by_cases h1 : k = 1
    · subst h1
      have HVE := Lib.hid (show V = 1 :: num (zig n) from by rw [HV.out]; unfold valW; rw [if_pos hr, if_pos rfl])
      have h9 := num_len9 (zig n) (by have := zig_lt n hn.1 hn.2; omega)
      have C := Lib.hid (fun W => refsigned_any n W hn.1 hn.2)
      obtain ⟨S, hS⟩ : ∃ S : ByteArray, S = ⟨(num (zig n)).toArray⟩ := ⟨_, rfl⟩
      rw [← hS] at C
      have hSs : S.size ≤ 9 := by rw [hS, str_size]; exact h9
      have HS := Lib.hid hS
      have hcc : ¬ (9223372036854775807 < (⟨#[1]⟩ : ByteArray).size + S.size) := by have : (⟨#[1]⟩ : ByteArray).size = 1 := rfl; omega
      clear hS h9 hr
      go_enter Try.func72, Try.ntmps72
      go_wp2_with (first
        | (go_at_call 85/-f-/; refine R.out.mono ?_; rintro e w1 ⟨rfl, hb1⟩; have HB1 := Lib.hid (HB0.out.trans (hb1.mono HB0.out.size)); have BL1 := BL.out.below hb1 BL.out.lt; have c0 := BL1.cell 0; have c1 := BL1.cell 1; have c2 := BL1.cell 2; have hlt1 := BL1.lt; simp only [List.getElem?_toArray, List.getElem?_cons_zero, List.getElem?_cons_succ] at c0 c1 c2; clear hb1 BL1)
        | (go_at_call 89/-f-/; refine (C.out _).mono ?_; rintro e w2 ⟨rfl, hb2⟩))
      go_ret
      refine ⟨congrArg (fun q => Ending.returned (.string q)) ?_, HB1.out.trans (hb2.mono HB1.out.size)⟩
      rw [HS.out, HVE.out]
      apply ByteArray.ext
      simp
    · by_cases h2 : k = 2
      · subst h2
        have h3 : n = 0 ∧ s.size ≤ 200 := by rw [rightB_2] at hr; simpa using hr
        have HVE := Lib.hid (show V = 2 :: textW s from by rw [HV.out]; unfold valW; rw [if_pos hr, if_neg (show ¬ (2 : Int) = 1 by decide), if_pos rfl]; rfl)
        have hss := h3.2
        have h9 := textW_len s (by omega)
        have C := Lib.hid (fun W => reftext_any s W (by omega))
        obtain ⟨S, hS⟩ : ∃ S : ByteArray, S = ⟨(textW s).toArray⟩ := ⟨_, rfl⟩
        rw [← hS] at C
        have hSs : S.size ≤ 2009 := by rw [hS, str_size]; exact h9
        have HS := Lib.hid hS
        have hcc : ¬ (9223372036854775807 < (⟨#[2]⟩ : ByteArray).size + S.size) := by have : (⟨#[2]⟩ : ByteArray).size = 1 := rfl; omega
        clear hS h9 hr h1 h3
        go_enter Try.func72, Try.ntmps72
        go_wp2_with (first
          | (go_at_call 85/-f-/; refine R.out.mono ?_; rintro e w1 ⟨rfl, hb1⟩; have HB1 := Lib.hid (HB0.out.trans (hb1.mono HB0.out.size)); have BL1 := BL.out.below hb1 BL.out.lt; have c0 := BL1.cell 0; have c1 := BL1.cell 1; have c2 := BL1.cell 2; have hlt1 := BL1.lt; simp only [List.getElem?_toArray, List.getElem?_cons_zero, List.getElem?_cons_succ] at c0 c1 c2; clear hb1 BL1)
          | (go_at_call 90/-f-/; refine (C.out _).mono ?_; rintro e w2 ⟨rfl, hb2⟩))
        go_ret
        refine ⟨congrArg (fun q => Ending.returned (.string q)) ?_, HB1.out.trans (hb2.mono HB1.out.size)⟩
        rw [HS.out, HVE.out]
        apply ByteArray.ext
        simp
      · have h3 : k = 3 := by
          by_cases h3 : k = 3
          · exact h3
          · rw [rightB_no k n s h1 h2 h3] at hr; cases hr
        subst h3
        have h4 : n = 0 ∨ n = 1 := by rw [rightB_3] at hr; simp at hr; exact hr.1
        have HVE := Lib.hid (show V = [3, UInt8.ofNat n.toNat] from by rw [HV.out]; unfold valW; rw [if_pos hr, if_neg (show ¬ (3 : Int) = 1 by decide), if_neg (show ¬ (3 : Int) = 2 by decide)])
        have CV := fun W : World => conv_two W W.heap.size rfl n (UInt8.ofNat n.toNat) (by rcases h4 with rfl | rfl <;> decide)
        have hn8 : 0 ≤ n ∧ n < 256 := by omega
        clear h1 h2 hr h4
        go_enter Try.func72, Try.ntmps72
        go_wp2_with (first
          | (go_at_call 85/-f-/; refine R.out.mono ?_; rintro e w1 ⟨rfl, hb1⟩; have HB1 := Lib.hid (HB0.out.trans (hb1.mono HB0.out.size)); have BL1 := BL.out.below hb1 BL.out.lt; have c0 := BL1.cell 0; have c1 := BL1.cell 1; have c2 := BL1.cell 2; have hlt1 := BL1.lt; simp only [List.getElem?_toArray, List.getElem?_cons_zero, List.getElem?_cons_succ] at c0 c1 c2; clear hb1 BL1))
        go_ret
        exact ⟨congrArg (fun q => Ending.returned (.string q)) (by rw [HVE.out]), HB1.out.alloc HB1.out.size _⟩
  · have hr' : rightB k n s = false := by simpa using hr
    rw [hr'] at R
    have HVE := Lib.hid (show V = 1 :: num (zig 0) from by rw [HV.out]; unfold valW; rw [if_neg hr])
    have h9 := num_len9 (zig 0) (by decide)
    have C := Lib.hid (fun W => refsigned_any 0 W (by decide) (by decide))
    obtain ⟨S, hS⟩ : ∃ S : ByteArray, S = ⟨(num (zig 0)).toArray⟩ := ⟨_, rfl⟩
    rw [← hS] at C
    have hSs : S.size ≤ 9 := by rw [hS, str_size]; exact h9
    have HS := Lib.hid hS
    have hcc : ¬ (9223372036854775807 < (⟨#[1]⟩ : ByteArray).size + S.size) := by have : (⟨#[1]⟩ : ByteArray).size = 1 := rfl; omega
    clear hS h9 hr hr'
    go_enter Try.func72, Try.ntmps72
    go_wp2_with (first
      | (go_at_call 85/-f-/; refine R.out.mono ?_; rintro e w1 ⟨rfl, hb1⟩; have HB1 := Lib.hid (HB0.out.trans (hb1.mono HB0.out.size)); clear hb1)
      | (go_at_call 89/-f-/; refine (C.out _).mono ?_; rintro e w2 ⟨rfl, hb2⟩))
    go_ret
    refine ⟨congrArg (fun q => Ending.returned (.string q)) ?_, HB1.out.trans (hb2.mono HB1.out.size)⟩
    rw [HS.out, HVE.out]
    apply ByteArray.ext
    simp
set_option maxRecDepth 100000 in
set_option maxHeartbeats 8000000 in
theorem refrow_any (A : Option Addr) (n c : Nat) (vs : List Val) (w : World) (hA : Vals w A vs) (hn : vs.length = n) (hf : ∀ x ∈ vs, FitV x) (hs : n ≤ 1000) :
    Calls Try.prog 51/-f-/ #[.slice A n c] w fun e w' => e = .returned (.string ⟨(rowW vs).toArray⟩) ∧ Below w.heap.size w w' := by
  subst hn
  have HA := Lib.hid hA
  have HF := Lib.hid hf
  have C0 := Lib.hid (refsize_any (vs.length : Int) w (by omega) (by omega))
  rw [Int.toNat_natCast] at C0
  have h9 := num_len9 vs.length (by omega)
  clear hA hf
  go_enter Try.func51, Try.ntmps51
  go_wp2_with (go_at_call 27/-f-/; refine C0.out.mono ?_; rintro e w1 ⟨rfl, hb1⟩)
  go_loopw [3, 4] (fun sv i wr => ∃ (k : Nat) (S : ByteArray), k ≤ vs.length ∧ i = .int .i64 k ∧ sv = .string S ∧ S.size ≤ 9 + 210 * k ∧ Hid (S.data.toList = num vs.length ++ valsW (vs.take k)) ∧ Below w.heap.size w wr) (fun _ i _ => vs.length - (intOf i).toNat)
  case atStart => exact ⟨0, _, Nat.zero_le _, rfl, rfl, by rw [str_size]; omega, Lib.hid (by simp [valsW]), hb1⟩
  case round =>
    obtain ⟨k, S, hk, rfl, rfl, hSs, hS, hbl⟩ := hrel
    have hsz := hbl.size
    by_cases hlt : k < vs.length
    · rcases HA.out with h | ⟨b, off, rfl, hbw, hcell⟩
      · subst h; simp at hlt
      obtain ⟨x0, x1, x2⟩ := hcell k hlt
      replace x0 := (hbl.cell (p := ⟨b, off + k * 3, none⟩) hbw).trans x0
      replace x1 := (hbl.cell (p := ⟨b, off + k * 3 + 1, none⟩) hbw).trans x1
      replace x2 := (hbl.cell (p := ⟨b, off + k * 3 + 2, none⟩) hbw).trans x2
      have hbw2 : b < wr.heap.size := Nat.lt_of_lt_of_le hbw hsz
      have HT := Lib.hid (valsW_take vs k hlt)
      have HFX := Lib.hid (HF.out _ (getD_mem vs k hlt))
      clear hcell
      generalize vs.getD k default = x at *
      have hvl := valW_len x HFX.out
      have C := Lib.hid (refvalue_any x wr HFX.out)
      obtain ⟨T, hT⟩ : ∃ T : ByteArray, T = ⟨(valW x).toArray⟩ := ⟨_, rfl⟩
      rw [← hT] at C
      have hTs : T.size ≤ 210 := by rw [hT, str_size]; exact hvl
      have HTT := Lib.hid (show T.data.toList = valW x from by rw [hT])
      have hcc : ¬ (9223372036854775807 < S.size + T.size) := by omega
      clear hT
      obtain ⟨xk, xn, xs⟩ := x
      simp only at x0 x1 x2
      go_wp2_with (go_at_call 72/-f-/; refine C.out.mono ?_; rintro e w2 ⟨rfl, hb2⟩)
      go_roundw
      case rel => exact ⟨k + 1, _, by omega, by go_num, rfl, by rw [ByteArray.size_append]; omega, Lib.hid (by rw [ByteArray.data_append, Array.toList_append, hS.out, HTT.out, HT.out, List.append_assoc]), hbl.trans (hb2.mono hsz)⟩
      case measure => simp [intOf]; omega
    · have hkl : k = vs.length := by omega
      subst hkl
      rw [List.take_length] at hS
      go_wp2
      go_ret
      refine ⟨congrArg (fun q => Ending.returned (.string q)) ?_, hbl⟩
      apply ByteArray.ext
      apply Array.toList_inj.1
      rw [hS.out]; simp [rowW]
set_option maxRecDepth 100000 in
set_option maxHeartbeats 8000000 in
theorem refrows_any4 (A : Option Addr) (n c : Nat) (rs : List (List Val)) (w : World) (hA : Rowz w A rs) (hn : rs.length = n) (hf : ∀ r ∈ rs, r.length ≤ 1000 ∧ ∀ x ∈ r, FitV x) (hs : n ≤ 1000) :
    Calls Try.prog 28/-f-/ #[.slice A n c] w fun e w' => e = .returned (.string ⟨(rowsW rs).toArray⟩) ∧ Below w.heap.size w w' := by
  subst hn
  have HA := Lib.hid hA
  have HF := Lib.hid hf
  have C0 := Lib.hid (refsize_any (rs.length : Int) w (by omega) (by omega))
  rw [Int.toNat_natCast] at C0
  have h9 := num_len9 rs.length (by omega)
  clear hA hf
  go_enter Try.func28, Try.ntmps28
  go_wp2_with (go_at_call 27/-f-/; refine C0.out.mono ?_; rintro e w1 ⟨rfl, hb1⟩)
  go_loopw [3, 4] (fun sv i wr => ∃ (k : Nat) (S : ByteArray), k ≤ rs.length ∧ i = .int .i64 k ∧ sv = .string S ∧ S.size ≤ 9 + 210009 * k ∧ Hid (S.data.toList = num rs.length ++ (rs.take k).flatMap rowW) ∧ Below w.heap.size w wr) (fun _ i _ => rs.length - (intOf i).toNat)
  case atStart => exact ⟨0, _, Nat.zero_le _, rfl, rfl, by rw [str_size]; omega, Lib.hid (by simp), hb1⟩
  case round =>
    obtain ⟨k, S, hk, rfl, rfl, hSs, hS, hbl⟩ := hrel
    have hsz := hbl.size
    by_cases hlt : k < rs.length
    · rcases HA.out with h | ⟨b, off, rfl, hbw, hcell⟩
      · subst h; simp at hlt
      obtain ⟨Ai, ci, h1, hv⟩ := hcell k hlt
      have x0 := (hbl.cell (p := ⟨b, off + k, none⟩) hbw).trans h1
      have hbw2 : b < wr.heap.size := Nat.lt_of_lt_of_le hbw hsz
      have HT := Lib.hid (rowsW_take rs k hlt)
      have HFX := Lib.hid (HF.out (rs.getD k []) (by simp [List.getD, hlt]))
      have HV := Lib.hid (hv.keep hbl)
      clear hcell h1 hv
      generalize rs.getD k [] = r at *
      have hvl := rowW_len r HFX.out.2 HFX.out.1
      have C := Lib.hid (refrow_any Ai r.length ci r wr HV.out rfl HFX.out.2 HFX.out.1)
      obtain ⟨T, hT⟩ : ∃ T : ByteArray, T = ⟨(rowW r).toArray⟩ := ⟨_, rfl⟩
      rw [← hT] at C
      have hTs : T.size ≤ 210009 := by rw [hT, str_size]; exact hvl
      have HTT := Lib.hid (show T.data.toList = rowW r from by rw [hT])
      have hcc : ¬ (9223372036854775807 < S.size + T.size) := by omega
      clear hT
      go_wp2_with (go_at_call 51/-f-/; refine C.out.mono ?_; rintro e w2 ⟨rfl, hb2⟩)
      go_roundw
      case rel => exact ⟨k + 1, _, by omega, by go_num, rfl, by rw [ByteArray.size_append]; omega, Lib.hid (by rw [ByteArray.data_append, Array.toList_append, hS.out, HTT.out, HT.out, List.append_assoc]), hbl.trans (hb2.mono hsz)⟩
      case measure => simp [intOf]; omega
    · have hkl : k = rs.length := by omega
      subst hkl
      rw [List.take_length] at hS
      go_wp2
      go_ret
      refine ⟨congrArg (fun q => Ending.returned (.string q)) ?_, hbl⟩
      apply ByteArray.ext
      apply Array.toList_inj.1
      rw [hS.out]; simp [rowsW]
end Go.Proofs.Ytacangeamdcgdaa
